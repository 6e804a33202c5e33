import PyProof.Rows.All
import Wide.All
import OpenK.AllK
import Wide.FinOn
import HandS.ForMost
import HandS.Wide
import HandS.Evl
import HandS.IsInst
import PyProof.ReprRoads
import PyProof.ReprReads
import PyProof.ReprLen
import HandS.Conv
import KE.GoesMore
import HandS.Style
import HandS.Deep
import HandS.SortInts
import HandS.Gcd
import KE.KMathGC
import HandS.TupLen
import HandS.DictComp
import HandS.Zip
import KE.GoesZip
import HandS.SetBool
import HandS.Strs
import PyProof.Rows.SortShellAny
import HandS.Rev
import HandS.TryOnly
import HandS.EndBits
import KE.IntBitsLaws
import KE.KDictDisplayH
import PyProof.LongRange
import HandS.SetFor
import HandS.ExcOwn
import HandS.WordsExc
import HandS.ExcIs
import HandS.Property
import PyProof.InstSpecial
import PyProof.ZipIter
import KE.KItemsList
import HandS.Codes
import KE.DataMinKey
import KE.LtData
import PySem.Challenge.RW_twocombs_k30_parting_moves
set_option Elab.async false
set_option linter.all false
set_option maxRecDepth 100000
set_option maxHeartbeats 4000000
/-! PD1: data in the heap, states of slots over data, what an expression comes to -/
namespace PD
open PySem PySem.Spec PyProof.Rows L2 Evl
abbrev D := PyData

mutual
/-- the value v bears the data d in the heap G -/
inductive R (G : Hp) : V → D → Prop
  | non : R G .non .none
  | bl (b : Bool) : R G (.bl b) (.bool b)
  | int (i : Int) : R G (.int i) (.int i)
  | str (x : Str) : R G (.str x) (.str x)
  | lst {a : Addr} {xs : List V} {ds : List D} : G a = some (.lst xs) → RA G xs ds → R G (.ref a) (.list ds)
  | tup {a : Addr} {xs : List V} {ds : List D} : G a = some (.tup xs) → RA G xs ds → R G (.ref a) (.tuple ds)
inductive RA (G : Hp) : List V → List D → Prop
  | nil : RA G [] []
  | cons {v : V} {vs : List V} {d : D} {ds : List D} : R G v d → RA G vs ds → RA G (v :: vs) (d :: ds)
end
mutual
theorem R.mono {G G' : Hp} (e : Ex G G') : ∀ (d : D) (v : V), R G v d → R G' v d
  | .none, _, h => by cases h; exact .non
  | .bool b, _, h => by cases h; exact .bl b
  | .int i, _, h => by cases h; exact .int i
  | .str x, _, h => by cases h; exact .str x
  | .list ds, _, h => by
    cases h with
    | lst a b => exact .lst (e _ _ a) (RA.mono e ds _ b)
  | .tuple ds, _, h => by
    cases h with
    | tup a b => exact .tup (e _ _ a) (RA.mono e ds _ b)
  | .dict _, _, h => by cases h
theorem RA.mono {G G' : Hp} (e : Ex G G') : ∀ (ds : List D) (vs : List V), RA G vs ds → RA G' vs ds
  | [], _, h => by cases h; exact .nil
  | d :: ds, _, h => by
    cases h with
    | cons a b => exact .cons (R.mono e d _ a) (RA.mono e ds _ b)
end
theorem R.up {G G' : Hp} {v : V} {d : D} (h : R G v d) (e : Ex G G') : R G' v d := R.mono e d v h
theorem RA.up {G G' : Hp} {v : List V} {d : List D} (h : RA G v d) (e : Ex G G') : RA G' v d := RA.mono e d v h
mutual
theorem R.dp {K : PySem.W.Frag} {G : Hp} : ∀ (d : D) (v : V), R G v d → Dp K G v d
  | .none, _, h => by cases h; exact .non
  | .bool b, _, h => by cases h; exact .bl b
  | .int i, _, h => by cases h; exact .int i
  | .str x, _, h => by cases h; exact .str x
  | .list ds, _, h => by
    cases h with
    | lst a b => exact .lst (SqL.of a) (RA.dp ds _ b)
  | .tuple ds, _, h => by
    cases h with
    | tup a b => exact .tup (SqT.of a) (RA.dp ds _ b)
  | .dict _, _, h => by cases h
theorem RA.dp {K : PySem.W.Frag} {G : Hp} : ∀ (ds : List D) (vs : List V), RA G vs ds → DpAll K G vs ds
  | [], _, h => by cases h; exact .nil
  | d :: ds, _, h => by
    cases h with
    | cons a b => exact .cons (R.dp d _ a) (RA.dp ds _ b)
end
theorem RA.len {G : Hp} : ∀ {vs : List V} {ds : List D}, RA G vs ds → vs.length = ds.length
  | _, _, .nil => rfl
  | _, _, .cons _ t => by rw [List.length_cons, List.length_cons, RA.len t]
theorem RA.get {G : Hp} : ∀ {vs : List V} {ds : List D} {i : Nat} {d : D}, RA G vs ds → ds[i]? = some d → ∃ v, vs[i]? = some v ∧ R G v d
  | _, _, _, _, .nil, e => by simp at e
  | _, _, 0, _, .cons r _, e => by simp at e; subst e; exact ⟨_, rfl, r⟩
  | _, _, i + 1, d, .cons _ t, e => by
    obtain ⟨u, h1, h2⟩ := RA.get (i := i) (d := d) t (by simpa using e)
    exact ⟨u, by simpa using h1, h2⟩
theorem RA.get' {G : Hp} : ∀ {vs : List V} {ds : List D} {i : Nat} {v : V}, RA G vs ds → vs[i]? = some v → ∃ d, ds[i]? = some d ∧ R G v d
  | _, _, _, _, .nil, e => by simp at e
  | _, _, 0, _, .cons r _, e => by simp at e; subst e; exact ⟨_, rfl, r⟩
  | _, _, i + 1, d, .cons _ t, e => by
    obtain ⟨u, h1, h2⟩ := RA.get' (i := i) t (by simpa using e)
    exact ⟨u, by simpa using h1, h2⟩
theorem RA.app {G : Hp} : ∀ {vs : List V} {ds : List D} {us : List V} {es : List D}, RA G vs ds → RA G us es → RA G (vs ++ us) (ds ++ es)
  | _, _, _, _, .nil, s => s
  | _, _, _, _, .cons r t, s => .cons r (RA.app t s)
theorem RA.take {G : Hp} : ∀ {vs : List V} {ds : List D} (n : Nat), RA G vs ds → RA G (vs.take n) (ds.take n)
  | _, _, 0, _ => .nil
  | _, _, _ + 1, .nil => .nil
  | _, _, n + 1, .cons r t => .cons r (RA.take n t)
theorem RA.drop {G : Hp} : ∀ {vs : List V} {ds : List D} (n : Nat), RA G vs ds → RA G (vs.drop n) (ds.drop n)
  | _, _, 0, r => r
  | _, _, _ + 1, .nil => .nil
  | _, _, n + 1, .cons _ t => RA.drop n t
theorem RA.set {G : Hp} {v : V} {d : D} (r : R G v d) : ∀ {vs : List V} {ds : List D} (i : Nat), RA G vs ds → RA G (vs.set i v) (ds.set i d)
  | _, _, _, .nil => .nil
  | _, _, 0, .cons _ t => .cons r t
  | _, _, i + 1, .cons q t => .cons q (RA.set r i t)
theorem RA.erase {G : Hp} : ∀ {vs : List V} {ds : List D} (i : Nat), RA G vs ds → RA G (vs.eraseIdx i) (ds.eraseIdx i)
  | _, _, _, .nil => .nil
  | _, _, 0, .cons _ t => t
  | _, _, i + 1, .cons q t => .cons q (RA.erase i t)
theorem RA.ints {G : Hp} : ∀ {vs : List V} {ns : List Int}, RA G vs (ns.map PyData.int) → vs = ns.map V.int
  | _, [], h => by cases h; rfl
  | _, n :: ns, h => by
    cases h with
    | cons a b =>
      cases a
      rw [List.map_cons, RA.ints b]
theorem RA.of_ints {G : Hp} : ∀ (ns : List Int), RA G (ns.map V.int) (ns.map PyData.int)
  | [] => .nil
  | n :: ns => .cons (.int n) (RA.of_ints ns)

inductive W where
  | d (x : D) | o (xs : List D) | v (x : V)

structure Cn where
  H0 : Hp
  hd : Addr → Prop
  pool : Option Addr
  pin : Addr → Option HO

abbrev DS := List (Option W)
def VW (G H : Hp) (c : Cn) (v : V) : W → Prop
  | .d x => R G v x
  | .o xs => ∃ p vs, v = .ref p ∧ H p = some (.lst vs) ∧ RA G vs xs ∧ G p = none ∧ c.H0 p = none ∧ c.pin p = none ∧ c.pool ≠ some p ∧ ¬ c.hd p
  | .v x => v = x

structure HS (c : Cn) (G : Hp) (σ : L2.St) (H : Hp) (ds : DS) (pl : List D) : Prop where
  sub : Ex G H
  gh : ∀ a, c.hd a → G a = none
  gq : ∀ a, c.pool = some a → G a = none
  gn : ∀ a o, c.pin a = some o → G a = none
  keep : ∀ a o, c.pool ≠ some a → c.H0 a = some o → H a = some o
  pl : ∀ p, c.pool = some p → ¬ c.hd p ∧ c.pin p = none ∧ ∃ vs, H p = some (.lst vs) ∧ RA G vs pl
  pin : ∀ a o, c.pin a = some o → H a = some o
  hid : ∀ a, c.hd a → ∃ o, H a = some o
  len : σ.length = ds.length
  slots : ∀ (i : Nat) (w : W), ds[i]? = some (some w) → ∃ v, σ[i]? = some (some v) ∧ VW G H c v w
  own : ∀ (i j : Nat) (p : Addr) (xs ys : List D), ds[i]? = some (some (.o xs)) → ds[j]? = some (some (.o ys)) → σ[i]? = some (some (.ref p)) → σ[j]? = some (some (.ref p)) → i = j

theorem VW.up {G G' H H' : Hp} {c : Cn} {v : V} {w : W} (h : VW G H c v w) (e : Ex G G') (eH : ∀ p vs, G p = none → c.H0 p = none → c.pin p = none → c.pool ≠ some p → ¬ c.hd p → H p = some (.lst vs) → H' p = some (.lst vs) ∧ G' p = none) : VW G' H' c v w := by
  cases w with
  | d x => exact R.up h e
  | o xs =>
    obtain ⟨p, vs, a1, a2, a3, a4, a5, a6, a7, a8⟩ := h
    obtain ⟨b1, b2⟩ := eH p vs a4 a5 a6 a7 a8 a2
    exact ⟨p, vs, a1, b1, a3.up e, b2, a5, a6, a7, a8⟩
  | v x => exact h

section
variable {c : Cn} {G H : Hp} {σ : L2.St} {ds : DS} {pl : List D}
theorem HS.none_of (h : HS c G σ H ds pl) {p : Addr} (hp : H p = none) : G p = none ∧ ¬ c.hd p ∧ c.pin p = none ∧ c.pool ≠ some p ∧ c.H0 p = none := by
  refine ⟨?_, fun z => ?_, ?_, fun z => ?_, ?_⟩
  · cases e : G p with
    | none => rfl
    | some o => rw [h.sub p o e] at hp; cases hp
  · obtain ⟨o, e⟩ := h.hid p z
    rw [e] at hp; cases hp
  · cases e : c.pin p with
    | none => rfl
    | some o => rw [h.pin p o e] at hp; cases hp
  · obtain ⟨_, _, vs, e, _⟩ := h.pl p z
    rw [e] at hp; cases hp
  · cases e : c.H0 p with
    | none => rfl
    | some o =>
      by_cases z : c.pool = some p
      · obtain ⟨_, _, vs, e2, _⟩ := h.pl p z
        rw [e2] at hp; cases hp
      · rw [h.keep p o z e] at hp; cases hp
theorem HS.newD (h : HS c G σ H ds pl) {p : Addr} {o : HO} (hp : H p = none) : HS c (upd G p o) σ (upd H p o) ds pl := by
  obtain ⟨n1, n2, n3, n4, n5⟩ := h.none_of hp
  have eG : Ex G (upd G p o) := Ex.new n1
  have eH : Ex H (upd H p o) := Ex.new hp
  refine ⟨fun a u q => ?_, fun a q => ?_, fun a q => ?_, fun a u q => ?_, fun a u q1 q2 => eH _ _ (h.keep a u q1 q2), fun q z => ?_, fun a u q => eH _ _ (h.pin a u q), fun a q => ?_, h.len, fun i w q => ?_, h.own⟩
  · by_cases z : a = p
    · subst z; rw [upd_same] at q ⊢; exact q
    · rw [upd_ne z] at q ⊢; exact h.sub a u q
  · rw [upd_ne (fun z : a = p => n2 (z ▸ q))]; exact h.gh a q
  · rw [upd_ne (fun z : a = p => n4 (z ▸ q))]; exact h.gq a q
  · rw [upd_ne (fun z => by rw [z, n3] at q; cases q)]; exact h.gn a u q
  · obtain ⟨b1, b2, vs, b3, b4⟩ := h.pl q z
    exact ⟨b1, b2, vs, eH _ _ b3, b4.up eG⟩
  · obtain ⟨u, e⟩ := h.hid a q
    exact ⟨u, eH _ _ e⟩
  · obtain ⟨v, e1, e2⟩ := h.slots i w q
    refine ⟨v, e1, e2.up eG fun q vs a1 a2 a3 a4 a5 a6 => ⟨eH _ _ a6, ?_⟩⟩
    rw [upd_ne (ne_of_none a6 hp)]; exact a1
theorem HS.newH (h : HS c G σ H ds pl) {p : Addr} {o : HO} (hp : H p = none) : HS c G σ (upd H p o) ds pl := by
  have eH : Ex H (upd H p o) := Ex.new hp
  refine ⟨fun a u q => eH _ _ (h.sub a u q), h.gh, h.gq, h.gn, fun a u q1 q2 => eH _ _ (h.keep a u q1 q2), fun q z => ?_, fun a u q => eH _ _ (h.pin a u q), fun a q => ?_, h.len, fun i w q => ?_, h.own⟩
  · obtain ⟨b1, b2, vs, b3, b4⟩ := h.pl q z
    exact ⟨b1, b2, vs, eH _ _ b3, b4⟩
  · obtain ⟨u, e⟩ := h.hid a q
    exact ⟨u, eH _ _ e⟩
  · obtain ⟨v, e1, e2⟩ := h.slots i w q
    exact ⟨v, e1, e2.up (Ex.refl _) fun q vs a1 a2 a3 a4 a5 a6 => ⟨eH _ _ a6, a1⟩⟩
theorem HS.setPool (h : HS c G σ H ds pl) {p : Addr} (z : c.pool = some p) {us : List V} {pl' : List D} (hr : RA G us pl') : HS c G σ (upd H p (.lst us)) ds pl' := by
  obtain ⟨b1, b2, vs, b3, b4⟩ := h.pl p z
  have ne : ∀ a, a ≠ p → (upd H p (.lst us)) a = H a := fun a q => upd_ne q
  refine ⟨fun a u q => ?_, h.gh, h.gq, h.gn, fun a u q1 q2 => ?_, fun q z' => ?_, fun a u q => ?_, fun a q => ?_, h.len, fun i w q => ?_, h.own⟩
  · rw [ne a (fun e => by rw [e, h.gq p z] at q; cases q)]; exact h.sub a u q
  · rw [ne a (fun e => q1 (e ▸ z))]; exact h.keep a u q1 q2
  · have e : q = p := by rw [z] at z'; exact (Option.some.inj z').symm
    subst e
    exact ⟨b1, b2, us, upd_same, hr⟩
  · rw [ne a (fun e => by rw [e, b2] at q; cases q)]; exact h.pin a u q
  · rw [ne a (fun e => b1 (e ▸ q))]; exact h.hid a q
  · obtain ⟨v, e1, e2⟩ := h.slots i w q
    refine ⟨v, e1, e2.up (Ex.refl _) fun q vs a1 a2 a3 a4 a5 a6 => ⟨?_, a1⟩⟩
    rw [ne q (fun e => a4 (e ▸ z))]; exact a6
end

/-! ### what an expression comes to -/
def WE (c : Cn) (te : TE) (ds : DS) (pl : List D) (Φ : W → List D → Prop) : Prop := ∀ G σ H, HS c G σ H ds pl → ∀ Q : VK,
  (∀ v G' H' w pl', HS c G' σ H' ds pl' → Ex G G' → VW G' H' c v w → Φ w pl' → Q v H') → te σ H Q
def WA (c : Cn) (ta : TA) (ds : DS) (pl : List D) (Φ : List D → List D → Prop) : Prop := ∀ G σ H, HS c G σ H ds pl → ∀ Q : List V → Hp → Prop,
  (∀ vs G' H' xs pl', HS c G' σ H' ds pl' → Ex G G' → RA G' vs xs → Φ xs pl' → Q vs H') → ta σ H Q
def WT (c : Cn) (tt : TT) (ds : DS) (pl : List D) (Φ : Bool → List D → Prop) : Prop := ∀ G σ H, HS c G σ H ds pl → ∀ Q : Bool → Hp → Prop,
  (∀ b G' H' pl', HS c G' σ H' ds pl' → Ex G G' → Φ b pl' → Q b H') → tt σ H Q

abbrev isD (k : D → List D → Prop) : W → List D → Prop := fun w pl => match w with
  | .d x => k x pl
  | _ => False
abbrev isI (k : Int → List D → Prop) : W → List D → Prop := fun w pl => match w with
  | .d (.int i) => k i pl
  | _ => False
abbrev isB (k : Bool → List D → Prop) : W → List D → Prop := fun w pl => match w with
  | .d (.bool i) => k i pl
  | _ => False
abbrev isS (k : D → List D → Prop) : W → List D → Prop := fun w pl => match w with
  | .d x => k x pl
  | .o xs => k (.list xs) pl
  | _ => False

def dV : V → D
  | .non => .none
  | .bl b => .bool b
  | .int i => .int i
  | .str x => .str x
  | _ => .none
def plainV : V → Bool
  | .non | .bl _ | .int _ | .str _ => true
  | _ => false
theorem r_dV {G : Hp} : ∀ {v : V}, plainV v = true → R G v (dV v)
  | .non, _ => .non
  | .bl b, _ => .bl b
  | .int i, _ => .int i
  | .str x, _ => .str x
  | .byt _, h => by cases h
  | .flt _, h => by cases h
  | .ref _, h => by cases h
  | .ty _, h => by cases h

section
variable {c : Cn} {K : PySem.W.Frag} {ds : DS} {pl : List D} {Φ : W → List D → Prop} {ta tb te : TE} {tr : TA}
theorem WE.mono {Ψ : W → List D → Prop} (h : WE c te ds pl Φ) (k : ∀ w pl', Φ w pl' → Ψ w pl') : WE c te ds pl Ψ := fun G σ H hs Q q => h G σ H hs Q fun v G' H' w pl' a b e f => q v G' H' w pl' a b e (k w pl' f)
theorem WA.mono {Ψ Φ : List D → List D → Prop} (h : WA c tr ds pl Φ) (k : ∀ w pl', Φ w pl' → Ψ w pl') : WA c tr ds pl Ψ := fun G σ H hs Q q => h G σ H hs Q fun v G' H' w pl' a b e f => q v G' H' w pl' a b e (k w pl' f)
theorem we_var {i : Nat} {w : W} (hi : ds[i]? = some (some w)) (h : Φ w pl) : WE c (tVar i) ds pl Φ := fun G σ H hs Q q => by
  obtain ⟨v, e1, e2⟩ := hs.slots i w hi
  exact ⟨v, e1, q v G H w pl hs (Ex.refl _) e2 h⟩
theorem we_c {v : V} (hv : plainV v = true) (h : Φ (.d (dV v)) pl) : WE c (tC v) ds pl Φ := fun G σ H hs Q q => q v G H (.d _) pl hs (Ex.refl _) (r_dV hv) h
theorem we_int {i : Int} (h : Φ (.d (.int i)) pl) : WE c (tC (.int i)) ds pl Φ := we_c rfl h
theorem we_bl {i : Bool} (h : Φ (.d (.bool i)) pl) : WE c (tC (.bl i)) ds pl Φ := we_c rfl h
theorem we_str {i : Str} (h : Φ (.d (.str i)) pl) : WE c (tC (.str i)) ds pl Φ := we_c rfl h
theorem we_non (h : Φ (.d .none) pl) : WE c (tC .non) ds pl Φ := we_c rfl h

def RT (G H : Hp) (v : V) (x : D) : Prop := R G v x ∨ ∃ p vs xs, v = .ref p ∧ x = .list xs ∧ H p = some (.lst vs) ∧ RA G vs xs
theorem RT.h {G H : Hp} {v : V} {x : D} (h : RT G H v x) (s : Ex G H) : R H v x := by
  rcases h with h | ⟨p, vs, xs, rfl, rfl, a, b⟩
  · exact h.up s
  · exact .lst a (b.up s)
theorem RT.list {G H : Hp} {v : V} {xs : List D} (h : RT G H v (.list xs)) (s : Ex G H) : ∃ p vs, v = .ref p ∧ H p = some (.lst vs) ∧ RA G vs xs := by
  rcases h with h | ⟨p, vs, ys, rfl, e, a, b⟩
  · cases h with
    | lst a b => exact ⟨_, _, rfl, s _ _ a, b⟩
  · cases e
    exact ⟨p, vs, rfl, a, b⟩
theorem RT.tup {G H : Hp} {v : V} {xs : List D} (h : RT G H v (.tuple xs)) (s : Ex G H) : ∃ p vs, v = .ref p ∧ H p = some (.tup vs) ∧ RA G vs xs := by
  rcases h with h | ⟨p, vs, ys, rfl, e, a, b⟩
  · cases h with
    | tup a b => exact ⟨_, _, rfl, s _ _ a, b⟩
  · cases e
theorem RT.int {G H : Hp} {v : V} {i : Int} (h : RT G H v (.int i)) : v = .int i := by
  rcases h with h | ⟨p, vs, ys, rfl, e, a, b⟩
  · cases h; rfl
  · cases e
theorem RT.bl {G H : Hp} {v : V} {i : Bool} (h : RT G H v (.bool i)) : v = .bl i := by
  rcases h with h | ⟨p, vs, ys, rfl, e, a, b⟩
  · cases h; rfl
  · cases e
theorem RT.str {G H : Hp} {v : V} {i : Str} (h : RT G H v (.str i)) : v = .str i := by
  rcases h with h | ⟨p, vs, ys, rfl, e, a, b⟩
  · cases h; rfl
  · cases e
theorem RT.non {G H : Hp} {v : V} (h : RT G H v .none) : v = .non := by
  rcases h with h | ⟨p, vs, ys, rfl, e, a, b⟩
  · cases h; rfl
  · cases e
def Co (c : Cn) (ds : DS) (G : Hp) (σ : L2.St) (Φ : W → List D → Prop) (Q : VK) : Prop := ∀ z G' H' w p3, HS c G' σ H' ds p3 → Ex G G' → VW G' H' c z w → Φ w p3 → Q z H'
def OpS (c : Cn) (r : R2) (ds : DS) (x y : D) (p2 : List D) (Φ : W → List D → Prop) : Prop := ∀ G σ H v u, HS c G σ H ds p2 → RT G H v x → RT G H u y → ∀ Q : VK, Co c ds G σ Φ Q → r v u H Q
theorem we_op {r : R2} (ha : WE c ta ds pl (isD fun x p1 => WE c tb ds p1 (isS fun y p2 => OpS c r ds x y p2 Φ))) : WE c (tOp r ta tb) ds pl Φ := by
  intro G σ H hs Q q
  refine ha G σ H hs _ fun v G1 H1 w p1 h1 e1 f1 g1 => ?_
  cases w with
  | v x => exact g1.elim
  | o xs => exact g1.elim
  | d x =>
    refine g1 G1 σ H1 h1 _ fun u G2 H2 w2 p2 h2 e2 f2 g2 => ?_
    have f1' : R G2 v x := R.up (show R G1 v x from f1) e2
    cases w2 with
    | v x => exact g2.elim
    | d y => exact g2 G2 σ H2 v u h2 (.inl f1') (.inl f2) Q fun z G' H' w p3 a b e f => q z G' H' w p3 a ((e1.trans e2).trans b) e f
    | o ys =>
      obtain ⟨p, us, rfl, a2, a3, _⟩ := f2
      exact g2 G2 σ H2 v _ h2 (.inl f1') (.inr ⟨p, us, ys, rfl, rfl, a2, a3⟩) Q fun z G' H' w p3 a b e f => q z G' H' w p3 a ((e1.trans e2).trans b) e f
theorem we_opV {r : R2} {i : Nat} {xs : List D} (hi : ds[i]? = some (some (.o xs))) (hb : WE c tb ds pl (isS fun y p2 => OpS c r ds (.list xs) y p2 Φ)) : WE c (tOp r (tVar i) tb) ds pl Φ := by
  intro G σ H hs Q q
  obtain ⟨v, e1, e2⟩ := hs.slots i _ hi
  refine ⟨v, e1, ?_⟩
  refine hb G σ H hs _ fun u G2 H2 w2 p2 h2 e2' f2 g2 => ?_
  obtain ⟨v', e1', p0, us0, rfl, a20, a30, _⟩ := h2.slots i _ hi
  have ev : v = .ref p0 := by rw [e1] at e1'; exact Option.some.inj (Option.some.inj e1')
  subst ev
  cases w2 with
  | v x => exact g2.elim
  | d y => exact g2 G2 σ H2 _ u h2 (.inr ⟨p0, us0, xs, rfl, rfl, a20, a30⟩) (.inl f2) Q fun z G' H' w p3 a b e f => q z G' H' w p3 a (e2'.trans b) e f
  | o ys =>
    obtain ⟨p, us, rfl, a2, a3, _⟩ := f2
    exact g2 G2 σ H2 _ _ h2 (.inr ⟨p0, us0, xs, rfl, rfl, a20, a30⟩) (.inr ⟨p, us, ys, rfl, rfl, a2, a3⟩) Q fun z G' H' w p3 a b e f => q z G' H' w p3 a (e2'.trans b) e f

/-! ### operations -/
theorem os_I0 {g : Int → Int → V} {i j : Int} {p2 : List D} (hp : plainV (g i j) = true) (h : Φ (.d (dV (g i j))) p2) : OpS c (rI0 g) ds (.int i) (.int j) p2 Φ := fun G σ H v u hs hv hu Q q =>
  ⟨i, j, hv.int, hu.int, q _ G H (.d _) p2 hs (Ex.refl _) (r_dV hp) h⟩
theorem os_I {C : Int → Int → Prop} {g : Int → Int → V} {i j : Int} {p2 : List D} (hc : C i j) (hp : plainV (g i j) = true) (h : Φ (.d (dV (g i j))) p2) : OpS c (rI C g) ds (.int i) (.int j) p2 Φ := fun G σ H v u hs hv hu Q q =>
  ⟨i, j, hv.int, hu.int, hc, q _ G H (.d _) p2 hs (Ex.refl _) (r_dV hp) h⟩
theorem os_eqD {x y : D} {p2 : List D} (h1 : SeqAt.shaped x = true) (h2 : SeqAt.shaped y = true) (h : Φ (.d (.bool (PyData.eqv x y))) p2) : OpS c (rEqD K) ds x y p2 Φ := fun G σ H v u hs hv hu Q q =>
  ⟨x, y, R.dp _ _ (hv.h hs.sub), R.dp _ _ (hu.h hs.sub), h1, h2, q _ G H (.d _) p2 hs (Ex.refl _) (R.bl _) h⟩
theorem os_neD {x y : D} {p2 : List D} (h1 : SeqAt.shaped x = true) (h2 : SeqAt.shaped y = true) (h : Φ (.d (.bool (!PyData.eqv x y))) p2) : OpS c (rNeD K) ds x y p2 Φ := fun G σ H v u hs hv hu Q q =>
  ⟨x, y, R.dp _ _ (hv.h hs.sub), R.dp _ _ (hu.h hs.sub), h1, h2, q _ G H (.d _) p2 hs (Ex.refl _) (R.bl _) h⟩
def ixD (x : D) (i : Int) : Option D := match x with
  | .list xs => atI xs i
  | .tuple xs => atI xs i
  | .str z => if z.length ≤ sizeLine then (atI z.cps.toList i).map fun k => .str ⟨#[k]⟩ else none
  | _ => none
theorem atI_RA {G : Hp} {vs : List V} {xs : List D} {i : Int} {e : D} (h : RA G vs xs) (ha : atI xs i = some e) : ∃ v, atI vs i = some v ∧ R G v e := by
  unfold atI at ha ⊢
  rw [h.len]
  cases q : ixN xs.length i with
  | none => rw [q] at ha; cases ha
  | some j =>
    rw [q] at ha
    exact h.get ha
theorem os_ix {x e : D} {i : Int} {p2 : List D} (he : ixD x i = some e) (h : Φ (.d e) p2) : OpS c (rIx K) ds x (.int i) p2 Φ := fun G σ H v u hs hv hu Q q => by
  have eu := hu.int
  subst eu
  cases x with
  | list xs =>
    obtain ⟨p, vs, rfl, a, b⟩ := hv.list hs.sub
    obtain ⟨z, z1, z2⟩ := atI_RA b (show atI xs i = some e from he)
    exact .inl ⟨p, vs, i, z, rfl, rfl, SqL.of a, z1, q z G H (.d _) p2 hs (Ex.refl _) (show R G z e from z2) h⟩
  | tuple xs =>
    obtain ⟨p, vs, rfl, a, b⟩ := hv.tup hs.sub
    obtain ⟨z, z1, z2⟩ := atI_RA b (show atI xs i = some e from he)
    exact .inr (.inl ⟨p, vs, i, z, rfl, rfl, SqT.of a, z1, q z G H (.d _) p2 hs (Ex.refl _) (show R G z e from z2) h⟩)
  | str z =>
    have ev := hv.str
    subst ev
    have he' : (if z.length ≤ sizeLine then (atI z.cps.toList i).map fun k => (PyData.str ⟨#[k]⟩) else none) = some e := he
    by_cases hz : z.length ≤ sizeLine
    · rw [if_pos hz] at he'
      cases q1 : atI z.cps.toList i with
      | none => rw [q1] at he'; cases he'
      | some k =>
        rw [q1] at he'
        cases he'
        exact .inr (.inr ⟨z, i, k, rfl, rfl, hz, q1, q _ G H (.d _) p2 hs (Ex.refl _) (R.str _) h⟩)
    · rw [if_neg hz] at he'; cases he'
  | none => cases he
  | bool _ => cases he
  | int _ => cases he
  | dict _ => cases he
theorem flat_ints (ns : List Int) : (ns.map V.int).all flatV = true := by
  rw [List.all_map]
  exact List.all_eq_true.mpr fun _ _ => rfl
theorem inV_ints (i : Int) : ∀ ns : List Int, inV (.int i) (ns.map V.int) = decide (i ∈ ns)
  | [] => by simp [inV]
  | n :: ns => by
    have ih := inV_ints i ns
    unfold inV at ih ⊢
    rw [List.map_cons, List.any_cons, ih]
    have e : eqV (.int n) (.int i) = decide (i = n) := by
      show (n == i) = decide (i = n)
      by_cases z : i = n
      · subst z; simp
      · have z' : ¬ n = i := fun q => z q.symm
        simp [z, z']
    rw [e]
    simp
theorem os_in {i : Int} {ns : List Int} {p2 : List D} (h : Φ (.d (.bool (decide (i ∈ ns)))) p2) : OpS c (rIn K false) ds (.int i) (.list (ns.map PyData.int)) p2 Φ := fun G σ H v u hs hv hu Q q => by
  have ev := hv.int
  subst ev
  obtain ⟨p, vs, rfl, a, b⟩ := hu.list hs.sub
  have evs := b.ints
  subst evs
  refine ⟨p, _, rfl, .inl (SqL.of a), rfl, flat_ints ns, ?_⟩
  show Q (.bl (inV (.int i) (ns.map V.int))) H
  rw [inV_ints]
  exact q _ G H (.d _) p2 hs (Ex.refl _) (R.bl _) h
theorem os_cat {xs ys : List D} {p2 : List D} (hl : xs.length + ys.length ≤ sizeLine) (h : Φ (.d (.list (xs ++ ys))) p2) : OpS c rCat ds (.list xs) (.list ys) p2 Φ := fun G σ H v u hs hv hu Q q => by
  obtain ⟨p, vs, rfl, a, b⟩ := hv.list hs.sub
  obtain ⟨p', us, rfl, a', b'⟩ := hu.list hs.sub
  refine ⟨p, p', vs, us, rfl, rfl, a, a', by rw [b.len, b'.len]; exact hl, fun l hl => ?_⟩
  have n := hs.none_of hl
  exact q _ _ _ (.d _) p2 (hs.newD hl) (Ex.new n.1) (show R _ (.ref l) (.list (xs ++ ys)) from .lst upd_same ((b.app b').up (Ex.new n.1))) h

/-! ### unary, displays, tests -/
theorem we_neg (ha : WE c ta ds pl (isI fun i p1 => Φ (.d (.int (-i))) p1)) : WE c (tUn (rU fun i => .int (-i)) ta) ds pl Φ := fun G σ H hs Q q =>
  ha G σ H hs _ fun v G1 H1 w p1 h1 e1 f1 g1 => by
    match w, f1, g1 with
    | .d (.int i), f1, g1 =>
      cases f1
      exact ⟨i, rfl, q _ G1 H1 (.d _) p1 h1 e1 (R.int _) g1⟩
theorem wa_nil {Φ : List D → List D → Prop} (h : Φ [] pl) : WA c tNil ds pl Φ := fun G σ H hs Q q => q [] G H [] pl hs (Ex.refl _) .nil h
theorem wa_cons {Φ : List D → List D → Prop} (ha : WE c ta ds pl (isD fun x p1 => WA c tr ds p1 fun xs p2 => Φ (x :: xs) p2)) : WA c (tCons ta tr) ds pl Φ := fun G σ H hs Q q =>
  ha G σ H hs _ fun v G1 H1 w p1 h1 e1 f1 g1 => by
    match w, f1, g1 with
    | .d x, f1, g1 =>
      exact g1 G1 σ H1 h1 _ fun vs G2 H2 xs p2 h2 e2 f2 g2 => q (v :: vs) G2 H2 (x :: xs) p2 h2 (e1.trans e2) (.cons (R.up f1 e2) f2) g2
theorem we_tup (ha : WA c tr ds pl fun xs p1 => xs.length ≤ sizeLine ∧ Φ (.d (.tuple xs)) p1) : WE c (tTup tr) ds pl Φ := fun G σ H hs Q q =>
  ha G σ H hs _ fun vs G1 H1 xs p1 h1 e1 f1 g1 => ⟨by rw [f1.len]; exact g1.1, fun p hp => by
    have n := h1.none_of hp
    exact q _ _ _ (.d _) p1 (h1.newD hp) (e1.trans (Ex.new n.1)) (show R _ (.ref p) (.tuple xs) from .tup upd_same (f1.up (Ex.new n.1))) g1.2⟩
theorem we_lst (ha : WA c tr ds pl fun xs p1 => xs.length ≤ sizeLine ∧ Φ (.d (.list xs)) p1) : WE c (tLst tr) ds pl Φ := fun G σ H hs Q q =>
  ha G σ H hs _ fun vs G1 H1 xs p1 h1 e1 f1 g1 => ⟨by rw [f1.len]; exact g1.1, fun p hp => by
    have n := h1.none_of hp
    exact q _ _ _ (.d _) p1 (h1.newD hp) (e1.trans (Ex.new n.1)) (show R _ (.ref p) (.list xs) from .lst upd_same (f1.up (Ex.new n.1))) g1.2⟩
theorem we_lstO (ha : WA c tr ds pl fun xs p1 => xs.length ≤ sizeLine ∧ Φ (.o xs) p1) : WE c (tLst tr) ds pl Φ := fun G σ H hs Q q =>
  ha G σ H hs _ fun vs G1 H1 xs p1 h1 e1 f1 g1 => ⟨by rw [f1.len]; exact g1.1, fun p hp => by
    obtain ⟨n1, n2, n3, n4, n5⟩ := h1.none_of hp
    exact q _ G1 _ (.o xs) p1 (h1.newH hp) e1 ⟨p, vs, rfl, upd_same, f1, n1, n5, n3, n4, n2⟩ g1.2⟩

section
variable {tt tu : TT} {Ψ : Bool → List D → Prop}
theorem wt_B (h : WE c te ds pl (isB Ψ)) : WT c (tB te) ds pl Ψ := fun G σ H hs Q q => h G σ H hs _ fun v G1 H1 w p1 h1 e1 f1 g1 => by
  match w, f1, g1 with
  | .d (.bool b), f1, g1 =>
    cases f1
    exact ⟨b, rfl, q b G1 H1 p1 h1 e1 g1⟩
theorem wt_T (h : WE c te ds pl (isB Ψ)) : WT c (tTest te) ds pl Ψ := wt_B h
theorem wt_and (h : WT c tt ds pl fun b p1 => if b = true then WT c tu ds p1 Ψ else Ψ false p1) : WT c (tAnd tt tu) ds pl Ψ := fun G σ H hs Q q => h G σ H hs _ fun b G1 H1 p1 h1 e1 g1 => by
  cases b with
  | true => exact (show WT c tu ds p1 Ψ from g1) G1 σ H1 h1 Q fun b2 G2 H2 p2 h2 e2 g2 => q b2 G2 H2 p2 h2 (e1.trans e2) g2
  | false => exact q false G1 H1 p1 h1 e1 g1
theorem wt_or (h : WT c tt ds pl fun b p1 => if b = true then Ψ true p1 else WT c tu ds p1 Ψ) : WT c (tOr tt tu) ds pl Ψ := fun G σ H hs Q q => h G σ H hs _ fun b G1 H1 p1 h1 e1 g1 => by
  cases b with
  | true => exact q true G1 H1 p1 h1 e1 g1
  | false => exact (show WT c tu ds p1 Ψ from g1) G1 σ H1 h1 Q fun b2 G2 H2 p2 h2 e2 g2 => q b2 G2 H2 p2 h2 (e1.trans e2) g2
theorem wt_not (h : WT c tt ds pl fun b p1 => Ψ (!b) p1) : WT c (tNot tt) ds pl Ψ := fun G σ H hs Q q => h G σ H hs _ fun b G1 H1 p1 h1 e1 g1 => q (!b) G1 H1 p1 h1 e1 g1
theorem wt_yes (h : Ψ true pl) : WT c tYes ds pl Ψ := fun G σ H hs Q q => q true G H pl hs (Ex.refl _) h
theorem we_if (h : WT c tt ds pl fun b p1 => if b = true then WE c ta ds p1 Φ else WE c tb ds p1 Φ) : WE c (tIf tt ta tb) ds pl Φ := fun G σ H hs Q q => h G σ H hs _ fun b G1 H1 p1 h1 e1 g1 => by
  cases b with
  | true => exact (show WE c ta ds p1 Φ from g1) G1 σ H1 h1 Q fun v G2 H2 w p2 h2 e2 f2 g2 => q v G2 H2 w p2 h2 (e1.trans e2) f2 g2
  | false => exact (show WE c tb ds p1 Φ from g1) G1 σ H1 h1 Q fun v G2 H2 w p2 h2 e2 f2 g2 => q v G2 H2 w p2 h2 (e1.trans e2) f2 g2
theorem we_andV (h : WE c ta ds pl (isB fun b p1 => if b = true then WE c tb ds p1 Φ else Φ (.d (.bool false)) p1)) : WE c (tAndV ta tb) ds pl Φ := fun G σ H hs Q q => h G σ H hs _ fun v G1 H1 w p1 h1 e1 f1 g1 => by
  match w, f1, g1 with
  | .d (.bool b), f1, g1 =>
    cases f1
    refine ⟨b, rfl, ?_⟩
    cases b with
    | true => exact (show WE c tb ds p1 Φ from g1) G1 σ H1 h1 Q fun v G2 H2 w p2 h2 e2 f2 g2 => q v G2 H2 w p2 h2 (e1.trans e2) f2 g2
    | false => exact q _ G1 H1 (.d _) p1 h1 e1 (R.bl false) g1
theorem we_orV (h : WE c ta ds pl (isB fun b p1 => if b = true then Φ (.d (.bool true)) p1 else WE c tb ds p1 Φ)) : WE c (tOrV ta tb) ds pl Φ := fun G σ H hs Q q => h G σ H hs _ fun v G1 H1 w p1 h1 e1 f1 g1 => by
  match w, f1, g1 with
  | .d (.bool b), f1, g1 =>
    cases f1
    refine ⟨b, rfl, ?_⟩
    cases b with
    | true => exact q _ G1 H1 (.d _) p1 h1 e1 (R.bl true) g1
    | false => exact (show WE c tb ds p1 Φ from g1) G1 σ H1 h1 Q fun v G2 H2 w p2 h2 e2 f2 g2 => q v G2 H2 w p2 h2 (e1.trans e2) f2 g2
theorem we_notV (h : WE c ta ds pl (isB fun b p1 => Φ (.d (.bool (!b))) p1)) : WE c (tNotV ta) ds pl Φ := fun G σ H hs Q q => h G σ H hs _ fun v G1 H1 w p1 h1 e1 f1 g1 => by
  match w, f1, g1 with
  | .d (.bool b), f1, g1 =>
    cases f1
    exact ⟨b, rfl, q _ G1 H1 (.d _) p1 h1 e1 (R.bl _) g1⟩
def truD : D → Bool
  | .none => false
  | .bool b => b
  | .int i => i != 0
  | .str y => (y.length : Int) != 0
  | .list xs => !xs.isEmpty
  | .tuple xs => !xs.isEmpty
  | .dict xs => !xs.isEmpty
def truOk : D → Bool
  | .str y => decide (y.length ≤ sizeLine)
  | .dict _ => false
  | _ => true
theorem empty_RA {G : Hp} {vs : List V} {xs : List D} (h : RA G vs xs) : (!vs.isEmpty) = !xs.isEmpty := by cases h <;> rfl
theorem tru_RT {G H : Hp} {v : V} {x : D} (s : Ex G H) (h : RT G H v x) (ok : truOk x = true) : TruV K v H (truD x) := by
  cases x with
  | none => rw [h.non]; exact rfl
  | bool b => rw [h.bl]; exact rfl
  | int i => rw [h.int]; exact rfl
  | str y => rw [h.str]; exact ⟨of_decide_eq_true ok, rfl⟩
  | list xs =>
    obtain ⟨p, vs, rfl, a, b⟩ := h.list s
    exact .inl ⟨vs, SqL.of a, (empty_RA b).symm⟩
  | tuple xs =>
    obtain ⟨p, vs, rfl, a, b⟩ := h.tup s
    exact .inr (.inl ⟨vs, SqT.of a, (empty_RA b).symm⟩)
  | dict _ => cases ok
theorem wt_tru (h : WE c te ds pl (isS fun x p1 => truOk x = true ∧ Ψ (truD x) p1)) : WT c (fun σ H Q => te σ H fun x H' => ∃ k, TruV K x H' k ∧ Q k H') ds pl Ψ := fun G σ H hs Q q => h G σ H hs _ fun v G1 H1 w p1 h1 e1 f1 g1 => by
  match w, f1, g1 with
  | .d x, f1, g1 => exact ⟨_, tru_RT h1.sub (.inl f1) g1.1, q _ G1 H1 p1 h1 e1 g1.2⟩
  | .o xs, f1, g1 =>
    obtain ⟨p, us, rfl, a2, a3, _⟩ := f1
    exact ⟨_, tru_RT h1.sub (.inr ⟨p, us, xs, rfl, rfl, a2, a3⟩) g1.1, q _ G1 H1 p1 h1 e1 g1.2⟩
end
end
end PD

/-! PD2: a def's promise where no container is being shown (guards empty), its rule, its call, a law's end -/
namespace PD
open PySem PySem.Spec PyProof.Rows L2 Evl

structure FG (P : Program) (w : World) (K : PySem.W.Frag) (mg : Str → Option Value) (base : Heap) (k : Nat) (f : Addr) (fd : FuncData) (ps : List Str) (sp : Sp) : Prop where
  many : ∀ vs H Q E, sp vs H Q E → vs.length = ps.length
  goes : ∀ (B : Around) (fr : List Env) (s : Shared) (H : Hp) (ar : Args) (us : List Value) (vs : List V) (Q : VK) (E : XK), B.guards = some [] → Room k B → Env0 P w K mg base B fr s H →
    BindsTo s fd ar (ps.zip us) → Vals vs us → sp vs H Q E → codeAny (model P w) B (.call (.ref f) ar) (CR CX0 fr P w H s Q E) s
section
variable {P : Program} {w : World} {K : PySem.W.Frag} {mg : Str → Option Value} {base : Heap} {k : Nat} {f : Addr} {fd : FuncData} {ps : List Str} {sp : Sp}
theorem fg_of {x qual : Str} {st : Stmt} {N : List Str} (F : Fun K x qual st f fd) (S : FnScope N ps (defScope st)) (len : ∀ vs H Q E, sp vs H Q E → vs.length = ps.length)
    (body : ∀ (cdv : Value) (B : Around) (fr : List Env) (s : Shared) (H : Hp) (vs : List V) (Q : VK) (E : XK), B.guards = some [] → Room k (B.deeper (envOfC qual (defScope st) s.heap.objs.size f cdv)) → sp vs H Q E →
      ∃ t, PSs (cxOf CX0 P w K mg base N qual (defScope st) f cdv B fr s H E).nox (defBody st) t ∧ t { nx := fun _ H' => Q .non H', rt := Q } (start N vs) H) : FG P w K mg base (k + 1) f fd ps sp := by
  obtain ⟨oc, od, kV, doc, pm, an, cdv, ct, osl, rfl, lk, hcd⟩ := F.ex
  constructor
  · exact len
  intro B fr s H ar us vs Q E hg hr e0 hb r hsp
  have kin := e0.mod.kin.keeps fun b o e => (e0.bs b o e).1
  have nolim := e0.mod.nolimit.keeps fun b o e => (e0.bs b o e).1
  have kinds : ∀ y ∈ ps.zip us, (defScope st).names.lookup y.1 = some .local ∨ ((defScope st).names.lookup y.1 = some .cell ∧
      ((cellsFrom (s.heap.objs.size + 1) (defScope st).names []).lookup y.1).isSome = true) := by
    rintro ⟨n, v⟩ hy
    cases S.par n (List.of_mem_zip hy).1 with
    | inl q => exact Or.inl q
    | inr q => exact Or.inr ⟨q, PySem.W.cellsFrom_some _ _ _ (Or.inl q)⟩
  apply codeAny_call_function hr.depth (kin _ _ lk) rfl S.co S.gen rfl (PySem.W.codeRec_of kin hcd)
  refine hb _ _ _ _ (wpAny_newFunctionEnv_cells S.kind kinds ?_)
  intro env he s1 x
  subst he
  refine ⟨nolim.keeps x.toInCall.keep, codeAny_func ?_⟩
  obtain ⟨t, ht, hq⟩ := body cdv B fr s H vs Q E hg (hr.deeper _) hsp
  have I0 := inv_start (CX := CX0) (P := P) (E := E) S hr.hd e0 (len _ _ _ _ hsp) r x
  refine wpAny_mono (ht.nox.run [] s1 (start N vs) H _ I0 hq) ?_ (fun _ _ q => q)
  intro fl s2 hs
  match fl, hs with
  | .ret u, ⟨v, _, H2, J, rv, q⟩ => exact ⟨v, H2, J.os, J.bare, J.base, J.hok, rv, q⟩
  | .next, ⟨_, H2, J, q⟩ => exact ⟨V.non, H2, J.os, J.bare, J.base, J.hok, rfl, q⟩
  | .brk, ⟨_, _, _, q⟩ => exact q.elim
  | .cont, ⟨_, _, _, q⟩ => exact q.elim
end
section
variable {X : Cx} {k : Nat} {f : Addr} {fd : FuncData} {ps : List Str} {sp : Sp} {E : XK} {x : Str} {p pos : Pos} {e : Expr} {es : List Expr} {t : TA}
theorem fg_run {pins : List (Addr × Obj)} {σ : L2.St} {H : Hp} {s : Shared} {Q : VK} {us : List Value} {vs : List V} (hG : X.A.guards = some []) (F : FG X.prog X.w X.K X.mg X.base k f fd ps sp) (hr : Room k X.A) (hb : Binds X.K fd ps [])
    (I : Inv X pins σ H s) (r : Vals vs us) (h : sp vs H Q E) : wpAny (model X.prog X.w) X.A (call (.ref f) us) (EP X pins σ Q) X.xe s := by
  have n : (us ++ []).length = ps.length := by
    have n1 := F.many _ _ _ _ h
    rw [List.append_nil, ← r.length]
    exact n1
  have b := hb s us I.kIn n
  rw [List.append_nil] at b
  apply wpAny_call
  refine codeAny_mono (F.goes X.A X.stack s H ⟨us, []⟩ us vs Q E hG hr I.env0 b r h) ?_
  intro res s2 hq
  match res, hq with
  | .ok (.ret u), hq => exact I.after hq
  | .ok .next, hq => exact hq.elim
  | .ok .brk, hq => exact hq.elim
  | .ok .cont, hq => exact hq.elim
  | .error er, hq => exact hq.elim
theorem pe_callG (hG : X.A.guards = some []) (F : FG X.prog X.w X.K X.mg X.base k f fd ps sp) (hr : Room k X.A) (hg : Gl X x) (hm : X.mg x = some (.ref f)) (hk : PySem.W.keepIn X.K (.ref f) = true) (hb : Binds X.K fd ps []) (ha : PA X (e :: es) t)
    (hdb : (x == ("__debug__" : Str)) = false := by decide) (he : starEach (e :: es) X.env = (false, eval e X.env) :: starEach es X.env := by rfl)
    (hpl : (backTo pos (starEach es X.env)).any (·.1) = false := by rfl) : PE X (.Call (.Name x p) (e :: es) [] pos) (tCall sp [] E t) := by
  constructor
  intro pins s σ H Q I h
  apply wpAny_Call_Name_kw
  refine ld_glob I hg hm ?_ hdb
  refine PySem.W.callWith_K (h₀ := X.base) I.ok.mod.kin hk ?_ he hpl
  refine thn (ha.run pos pins s σ H _ I h) ?_
  rintro us s1 ⟨vs, H1, I1, r, q⟩
  rw [List.append_nil] at q
  exact ⟨I1.kIn, fg_run hG F hr hb I1 r q⟩
end

/-! ### a law's end -/
def scrH (a : Addr) (o : Obj) (xs : List V) : Hp := fun b => if b = a then some (.frz o (.lst xs)) else none
theorem scrH_at {a : Addr} {o : Obj} {xs : List V} : scrH a o xs a = some (.frz o (.lst xs)) := if_pos rfl
theorem scrH_some {a b : Addr} {o : Obj} {xs : List V} {u : HO} (h : scrH a o xs b = some u) : b = a ∧ u = .frz o (.lst xs) := by
  unfold scrH at h
  by_cases e : b = a
  · rw [if_pos e] at h
    exact ⟨e, (Option.some.inj h).symm⟩
  · rw [if_neg e] at h
    cases h
section
variable {P : Program} {w : World} {K : PySem.W.Frag} {mg mb : Str → Option Value} {k : Nat} {fa a : Addr} {fd : FuncData} {x : Str} {sp : Sp} {s₁ : Shared} {vs : List Value} {ns : List Int}
theorem fg_law1 (kin : K.In s₁.heap) (g1 : s₁.heap.Ns mainGlobals mg) (g2 : s₁.heap.Ns builtinsNs mb) (g3 : ∀ y : Str, y ≠ "__name__" → mb y = bootBuiltins y) (g4 : s₁.heap.NoLimit) (g5 : s₁.gens = #[])
    (at_ : s₁.heap.get? a = some { cls := .type "list", data := .seq vs.toArray }) (hr : Room k callerA)
    (F : ∀ base : Heap, K.In base → base.Ns mainGlobals mg → FG P w K mg base k fa fd [x] sp) (bind : ∀ (s : Shared) (u : Value), BindsTo s fd ⟨[u], []⟩ [(x, u)])
    (H : Hp) (only : ∀ b u, H b = some u → b = a ∧ ∃ xs, u = .frz { cls := .type "list", data := .seq vs.toArray } (.lst xs)) (ok : HOk P w H s₁.heap) (out : ∀ u, H a = some u → K.lookup a = none)
    (want : sp [.ref a] H (fun v _ => v = .bl true) E0) :
    codeAny (model P w) callerA (.call (.ref fa) ⟨[.ref a], []⟩) (fun r s' => r = .ok (.ret (.bool true)) ∧ OldK s₁.heap s'.heap ∧ s'.os = s₁.os ∧ AllBare s'.gens) s₁ := by
  have free_of : ∀ {b : Addr} {o : Obj}, s₁.heap.get? b = some o → (b ≠ a ∨ ∃ es ep, o.data = .dict es ep) → H b = none := by
    intro b o e d
    cases q : H b with
    | none => rfl
    | some u =>
      have z := (only b u q).1
      rcases d with d | ⟨es, ep, d⟩
      · exact absurd z d
      · rw [z, at_] at e
        cases e
        cases (show Data.seq vs.toArray _ = Data.dict es ep from d)
  have nsT : ∀ {b : Addr} {m : Str → Option Value}, s₁.heap.Ns b m → (hidT s₁.heap H).Ns b m := by
    rintro b m ⟨o, es, ep, e, d, r⟩
    exact ⟨o, es, ep, hidT_get e (free_of e (.inr ⟨es, ep, d⟩)), d, r⟩
  have kinT : K.In (hidT s₁.heap H) := by
    intro b o e
    refine hidT_get (kin b o e) ?_
    cases q : H b with
    | none => rfl
    | some u =>
      have z := (only b u q).1
      subst z
      rw [out u q] at e
      cases e
  obtain ⟨mc, l1, l2⟩ := g4
  have md : Mod K mg (hidT s₁.heap H) := { kin := kinT, glob := nsT g1, blt := ⟨mb, nsT g2, g3⟩, nolimit := ⟨mc, nsT l1, l2⟩ }
  have en : Env0 P w K mg (hidT s₁.heap H) callerA [] s₁ H :=
    { frames := rfl, mod := md, bs := fun b o e => of_hidT e, bsz := Nat.le_of_eq (hidT_size _ _), funs := trivial, frf := fun b hb => absurd (show b ∈ ([] : List Addr) from hb) (by simp), hok := ok, bare := .of_eq g5 }
  refine codeAny_mono ((F _ kinT (nsT g1)).goes callerA [] s₁ H ⟨[.ref a], []⟩ [.ref a] [.ref a] _ _ rfl hr en (bind s₁ (.ref a)) (.cons rfl .nil) want) ?_
  intro r s2 q
  match r, q with
  | .ok (.ret u), ⟨v, H2, c1, c2, c3, c4, c5, c6⟩ =>
    have c6' : v = .bl true := c6
    subst c6'
    have c5' : u = Value.bool true := c5
    subst c5'
    refine ⟨rfl, OldK.of_keep ?_, c1, c2⟩
    intro b o e
    cases z : H b with
    | none => exact c3.keep b o e z (fun y => absurd (show b ∈ ([] : List Addr) from y) (by simp)) (by simp)
    | some u =>
      obtain ⟨z1, xs, z2⟩ := only b u z
      subst z2
      have f1 := (ok b _ z).1
      have f2 := (c4 b _ (c3.frzs b _ _ z)).1
      rw [e] at f1
      cases f1
      exact f2
  | .ok .next, q => exact q.elim
  | .ok .brk, q => exact q.elim
  | .ok .cont, q => exact q.elim
  | .error er, q => exact q.elim
theorem fg_law (kin : K.In s₁.heap) (g1 : s₁.heap.Ns mainGlobals mg) (g2 : s₁.heap.Ns builtinsNs mb) (g3 : ∀ y : Str, y ≠ "__name__" → mb y = bootBuiltins y) (g4 : s₁.heap.NoLimit) (g5 : s₁.gens = #[])
    (at_ : s₁.heap.get? a = some { cls := .type "list", data := .seq vs.toArray }) (hi : IntsAre vs ns) (hl : ns.length ≤ sizeLine) (hr : Room k callerA)
    (F : ∀ base : Heap, K.In base → base.Ns mainGlobals mg → FG P w K mg base k fa fd [x] sp) (bind : ∀ (s : Shared) (u : Value), BindsTo s fd ⟨[u], []⟩ [(x, u)])
    (want : ∀ H : Hp, (∀ b u, H b = some u → ∃ o xs, u = .frz o (.lst xs)) → SqL K H a (ns.map V.int) → sp [.ref a] H (fun v _ => v = .bl true) E0) :
    codeAny (model P w) callerA (.call (.ref fa) ⟨[.ref a], []⟩) (fun r s' => r = .ok (.ret (.bool true)) ∧ OldK s₁.heap s'.heap ∧ s'.os = s₁.os ∧ AllBare s'.gens) s₁ := by
  have rv := vals_ints hi
  have szs : vs.toArray.size ≤ sizeLine := by
    rw [List.size_toArray, hi.length]
    exact hl
  cases hk : K.lookup a with
  | some o =>
    have e := kin a o hk
    rw [at_] at e
    cases e
    refine fg_law1 kin g1 g2 g3 g4 g5 at_ hr F bind (fun _ => none) (fun b u z => by cases z) (fun b u z => by cases (show (none : Option HO) = some u from z)) (fun u z => by cases z) ?_
    exact want _ (fun b u z => by cases z) (.inr ⟨_, vs.toArray, _, hk, rfl, rfl, rfl, szs, by simpa using rv⟩)
  | none =>
    refine fg_law1 kin g1 g2 g3 g4 g5 at_ hr F bind (scrH a { cls := .type "list", data := .seq vs.toArray } (ns.map V.int)) (fun b u z => ⟨(scrH_some z).1, _, (scrH_some z).2⟩) ?_ (fun u z => hk) ?_
    · intro b u z
      obtain ⟨z1, z2⟩ := scrH_some z
      subst z1 z2
      exact ⟨at_, by rw [List.length_map]; exact hl, vs, _, rv, at_⟩
    · exact want _ (fun b u z => ⟨_, _, (scrH_some z).2⟩) (.inl (.inr ⟨_, scrH_at⟩))
end
theorem fg_end {l : PySem.W.OpenLaw} {n k : Nat} {q : Program} {loose : List Str} {XP : (Str → Option Value) → Heap → Prop} {YP : World → Heap → Prop} {d : DefRec} {K : Params → PySem.W.Frag} {sp : World → Sp} {x : Str} (many : l.most = some n)
    (small : n ≤ sizeLine) (nodef : d.params.defaults = []) (hr : Room k callerA) (lay : ∀ (w : World) (h : Heap), YP w h → (K w.params).In h)
    (F : ∀ (w : World) (mg : Str → Option Value) (fa : Addr) (h : Heap), (K w.params).In h → h.Ns mainGlobals mg → mg d.name = some (.ref fa) → ∃ fd : FuncData,
      (∀ (s : Shared) (u : Value), BindsTo s fd ⟨[u], []⟩ [(x, u)]) ∧ ∀ base : Heap, (K w.params).In base → base.Ns mainGlobals mg → FG l.prog w (K w.params) mg base k fa fd [x] (sp w))
    (want : ∀ (w : World) (H : Hp) (a : Addr) (ns : List Int), ns.length ≤ n → (∀ b u, H b = some u → ∃ o xs, u = .frz o (.lst xs)) → SqL (K w.params) H a (ns.map V.int) → sp w [.ref a] H (fun v _ => v = .bl true) E0) :
    PySem.W.WalkO q loose XP YP l.row.toRowW d [] (fun f vs => PySem.call f vs) := by
  refine Att.attach_call many nodef ?_
  intro w s₀ s₁ mg mb fa o pm cd doc a vs ns G Y ho hd hcd hmg hobj hints hlen hg
  obtain ⟨fd, hb, hF⟩ := F w mg fa _ (lay w _ Y) G.T.g hmg
  exact fg_law (lay w _ Y) G.T.g G.T.b G.T.builtins G.T.nolimit hg hobj hints (Nat.le_trans hlen small) hr hF hb fun H hO hS => want w H a ns hlen hO hS
end PD

/-! PD3: promises over data, calls, statements, loops, comprehensions -/
namespace PD
open PySem PySem.Spec PyProof.Rows L2 Evl

/-! ### promises -/
def spP (F : List D → (D → Prop) → Prop) : Sp := fun vs H Q _ => ∃ G ds, Ex G H ∧ RA G vs ds ∧ F ds fun d => ∀ v G' H', Ex H H' → Ex G' H' → Ex G G' → (∀ a o, H a = some o → G a = none → G' a = none) → R G' v d → Q v H'
def spN (F : List D → (List D → Prop) → Prop) : Sp := fun vs H Q _ => ∃ G ds, Ex G H ∧ RA G vs ds ∧ F ds fun xs => ∀ p us G' H', Ex H H' → Ex G' H' → Ex G G' → (∀ a o, H a = some o → G a = none → G' a = none) → H p = none → G' p = none →
  H' p = some (.lst us) → RA G' us xs → Q (.ref p) H'
def spO (F : List D → List D → (D → List D → Prop) → Prop) : Sp := fun vs H Q _ => ∃ G p vs' us pl ds, vs = .ref p :: vs' ∧ Ex G H ∧ G p = none ∧ H p = some (.lst us) ∧ RA G us pl ∧ RA G vs' ds ∧ F pl ds fun d pl' =>
  ∀ v G' H' us', (∀ a o, a ≠ p → H a = some o → H' a = some o) → Ex G' H' → Ex G G' → (∀ a o, H a = some o → G a = none → G' a = none) → H' p = some (.lst us') → RA G' us' pl' → R G' v d → Q v H'

section
variable {c : Cn} {K : PySem.W.Frag} {ds : DS} {pl : List D} {Φ : W → List D → Prop} {ta tb te : TE} {tr : TA} {G H : Hp} {σ : L2.St}
theorem HS.ext (h : HS c G σ H ds pl) {G' H' : Hp} (e : Ex H H') (s : Ex G' H') (g : Ex G G') (n : ∀ a o, H a = some o → G a = none → G' a = none) : HS c G' σ H' ds pl := by
  refine ⟨s, fun a q => ?_, fun a q => ?_, fun a o q => n a o (h.pin a o q) (h.gn a o q), fun a o q1 q2 => e _ _ (h.keep a o q1 q2), fun p z => ?_, fun a o q => e _ _ (h.pin a o q), fun a q => ?_, h.len, fun i w q => ?_, h.own⟩
  · obtain ⟨o, z⟩ := h.hid a q
    exact n a o z (h.gh a q)
  · obtain ⟨_, _, vs, z, _⟩ := h.pl a q
    exact n a _ z (h.gq a q)
  · obtain ⟨b1, b2, vs, b3, b4⟩ := h.pl p z
    exact ⟨b1, b2, vs, e _ _ b3, b4.up g⟩
  · obtain ⟨o, z⟩ := h.hid a q
    exact ⟨o, e _ _ z⟩
  · obtain ⟨v, e1, e2⟩ := h.slots i w q
    exact ⟨v, e1, e2.up g fun q vs a1 a2 a3 a4 a5 a6 => ⟨e _ _ a6, n _ _ a6 a1⟩⟩
theorem we_call {F : List D → (D → Prop) → Prop} {E : XK} (ha : WA c tr ds pl fun xs p1 => F xs fun d => Φ (.d d) p1) (mono : ∀ xs k k', F xs k → (∀ d, k d → k' d) → F xs k') : WE c (tCall (spP F) [] E tr) ds pl Φ := fun G σ H hs Q q =>
  ha G σ H hs _ fun vs G1 H1 xs p1 h1 e1 f1 g1 => by
    rw [List.append_nil]
    exact ⟨G1, xs, h1.sub, f1, mono xs _ _ g1 fun d hd v G' H' a1 a2 a3 a4 a5 => q v G' H' (.d d) p1 (h1.ext a1 a2 a3 a4) (e1.trans a3) a5 hd⟩
theorem we_callO {F : List D → List D → (D → List D → Prop) → Prop} {E : XK} {i : Nat} {p : Addr} (hi : ds[i]? = some (some (.v (.ref p)))) (hp : c.pool = some p)
    (ha : WA c tr ds pl fun xs p1 => F p1 xs fun d p2 => Φ (.d d) p2) (mono : ∀ xs ys k k', F xs ys k → (∀ d p, k d p → k' d p) → F xs ys k') : WE c (tCall (spO F) [] E (tCons (tVar i) tr)) ds pl Φ := fun G σ H hs Q q => by
  obtain ⟨v, e1, e2⟩ := hs.slots i _ hi
  have e2' : v = .ref p := e2
  subst e2'
  refine ⟨_, e1, ha G σ H hs _ fun vs G1 H1 xs p1 h1 e1 f1 g1 => ?_⟩
  show spO F ((V.ref p :: vs) ++ []) H1 Q E
  rw [List.append_nil]
  obtain ⟨b1, b2, us, b3, b4⟩ := h1.pl p hp
  refine ⟨G1, p, vs, us, p1, xs, rfl, h1.sub, h1.gq p hp, b3, b4, f1, mono _ _ _ _ g1 fun d p2 hd v G' H' us' a1 a2 a3 a4 a5 a6 a7 => ?_⟩
  refine q v G' H' (.d d) p2 ?_ (e1.trans a3) a7 hd
  refine ⟨a2, fun a z => ?_, fun a z => ?_, fun a o z => a4 _ _ (h1.pin a o z) (h1.gn a o z), fun a o q1 q2 => a1 _ _ (fun z => q1 (z ▸ hp)) (h1.keep a o q1 q2), fun p' z => ?_, fun a o z => a1 _ _ (fun z' => by rw [z', b2] at z; cases z) (h1.pin a o z), fun a z => ?_, h1.len, fun i w z => ?_, h1.own⟩
  · obtain ⟨o, z'⟩ := h1.hid a z
    exact a4 _ _ z' (h1.gh a z)
  · obtain ⟨_, _, us0, z', _⟩ := h1.pl a z
    exact a4 _ _ z' (h1.gq a z)
  · have e : p' = p := by rw [hp] at z; exact (Option.some.inj z).symm
    subst e
    exact ⟨b1, b2, us', a5, a6⟩
  · obtain ⟨o, z'⟩ := h1.hid a z
    exact ⟨o, a1 _ _ (fun e => b1 (e ▸ z)) z'⟩
  · obtain ⟨v, c1, c2⟩ := h1.slots i w z
    exact ⟨v, c1, c2.up a3 fun q vs d1 d2 d3 d4 d5 d6 => ⟨a1 _ _ (fun e => d4 (e ▸ hp)) d6, a4 _ _ d6 d1⟩⟩
theorem we_ixP {i : Nat} {p : Addr} (hi : ds[i]? = some (some (.v (.ref p)))) (hp : c.pool = some p) (hb : WE c tb ds pl (isI fun k p1 => ∃ e, atI p1 k = some e ∧ Φ (.d e) p1)) : WE c (tOp (rIx K) (tVar i) tb) ds pl Φ := fun G σ H hs Q q => by
  obtain ⟨v, e1, e2⟩ := hs.slots i _ hi
  have e2' : v = .ref p := e2
  subst e2'
  refine ⟨_, e1, hb G σ H hs _ fun u G1 H1 w p1 h1 e1 f1 g1 => ?_⟩
  match w, f1, g1 with
  | .d (.int k), f1, ⟨e, g1, g2⟩ =>
    cases f1
    obtain ⟨b1, b2, us, b3, b4⟩ := h1.pl p hp
    obtain ⟨z, z1, z2⟩ := atI_RA b4 g1
    exact .inl ⟨p, us, k, z, rfl, rfl, SqL.of b3, z1, q z G1 H1 (.d e) p1 h1 e1 z2 g2⟩

/-! ### statements -/
structure EE where
  nx : DS → List D → Prop
  rt : W → List D → Prop
  bk : DS → List D → Prop
  ct : DS → List D → Prop
structure Fits (c : Cn) (G : Hp) (D' : Ends) (E : EE) : Prop where
  nx : ∀ G' σ' H' ds' pl', HS c G' σ' H' ds' pl' → Ex G G' → E.nx ds' pl' → D'.nx σ' H'
  rt : ∀ v G' σ' H' ds' w pl', HS c G' σ' H' ds' pl' → Ex G G' → VW G' H' c v w → E.rt w pl' → D'.rt v H'
  bk : ∀ G' σ' H' ds' pl', HS c G' σ' H' ds' pl' → Ex G G' → E.bk ds' pl' → D'.bk σ' H'
  ct : ∀ G' σ' H' ds' pl', HS c G' σ' H' ds' pl' → Ex G G' → E.ct ds' pl' → D'.ct σ' H'
theorem Fits.up {D' : Ends} {E : EE} {G' : Hp} (f : Fits c G D' E) (e : Ex G G') : Fits c G' D' E :=
  ⟨fun a b d x y h e' => f.nx a b d x y h (e.trans e'), fun v a b d x w y h e' => f.rt v a b d x w y h (e.trans e'), fun a b d x y h e' => f.bk a b d x y h (e.trans e'), fun a b d x y h e' => f.ct a b d x y h (e.trans e')⟩
def WS (c : Cn) (ts : TS) (ds : DS) (pl : List D) (E : EE) : Prop := ∀ G σ H, HS c G σ H ds pl → ∀ D' : Ends, Fits c G D' E → ts D' σ H
variable {t u : TS} {E : EE}
theorem ws_next (h : E.nx ds pl) : WS c tNext ds pl E := fun G σ H hs D' f => f.nx G σ H ds pl hs (Ex.refl _) h
theorem ws_seq (h : WS c t ds pl { E with nx := fun ds' pl' => WS c u ds' pl' E }) : WS c (tSeq t u) ds pl E := fun G σ H hs D' f =>
  h G σ H hs { D' with nx := u D' } ⟨fun G' σ' H' ds' pl' h' e w => w G' σ' H' h' D' (f.up e), f.rt, f.bk, f.ct⟩
theorem ws_mono {E' : EE} (h : WS c t ds pl E') (h1 : ∀ ds' pl', E'.nx ds' pl' → E.nx ds' pl') (h2 : ∀ w pl', E'.rt w pl' → E.rt w pl') (h3 : ∀ ds' pl', E'.bk ds' pl' → E.bk ds' pl') (h4 : ∀ ds' pl', E'.ct ds' pl' → E.ct ds' pl') : WS c t ds pl E := fun G σ H hs D' f =>
  h G σ H hs D' ⟨fun a b d x y h e w => f.nx a b d x y h e (h1 _ _ w), fun v a b d x w y h e q z => f.rt v a b d x w y h e q (h2 _ _ z), fun a b d x y h e w => f.bk a b d x y h e (h3 _ _ w), fun a b d x y h e w => f.ct a b d x y h e (h4 _ _ w)⟩
theorem ws_ret (h : WE c te ds pl E.rt) : WS c (tRet te) ds pl E := fun G σ H hs D' f => h G σ H hs D'.rt fun v G' H' w pl' h' e q z => f.rt v G' σ H' ds w pl' h' e q z
theorem ws_drop (h : WE c te ds pl fun _ p1 => E.nx ds p1) : WS c (tDrop te) ds pl E := fun G σ H hs D' f => h G σ H hs _ fun v G' H' w pl' h' e q z => f.nx G' σ H' ds pl' h' e z
theorem ws_if {tt : TT} (h : WT c tt ds pl fun b p1 => if b = true then WS c t ds p1 E else WS c u ds p1 E) : WS c (tIfS tt t u) ds pl E := fun G σ H hs D' f => h G σ H hs _ fun b G1 H1 p1 h1 e1 g1 => by
  cases b with
  | true => exact (show WS c t ds p1 E from g1) G1 σ H1 h1 D' (f.up e1)
  | false => exact (show WS c u ds p1 E from g1) G1 σ H1 h1 D' (f.up e1)
theorem HS.set (h : HS c G σ H ds pl) {i : Nat} {v : V} {w : W} (hv : VW G H c v w) (hn : ∀ xs, w = .o xs → ∀ (j : Nat) (ys : List D), ds[j]? = some (some (W.o ys)) → σ[j]? ≠ some (some v)) : HS c G (σ.set i (some v)) H (ds.set i (some w)) pl := by
  refine ⟨h.sub, h.gh, h.gq, h.gn, h.keep, h.pl, h.pin, h.hid, by rw [List.length_set, List.length_set, h.len], fun j w' q => ?_, fun j k p xs ys q1 q2 q3 q4 => ?_⟩
  · by_cases e : i = j
    · subst e
      have hj : i < ds.length := by
        have := (List.getElem?_eq_some_iff.mp q).1
        rw [List.length_set] at this
        exact this
      rw [List.getElem?_set_self hj] at q
      cases q
      exact ⟨v, List.getElem?_set_self (by rw [h.len]; exact hj), hv⟩
    · rw [List.getElem?_set_ne e] at q
      obtain ⟨v', e1, e2⟩ := h.slots j w' q
      exact ⟨v', by rw [List.getElem?_set_ne e]; exact e1, e2⟩
  · have lt : ∀ {m : Nat} {z : Option W}, (ds.set i (some w))[m]? = some z → m < ds.length := fun q => by
      have := (List.getElem?_eq_some_iff.mp q).1
      rw [List.length_set] at this
      exact this
    by_cases e1 : i = j
    · by_cases e2 : i = k
      · exact e1.symm.trans e2
      · subst e1
        rw [List.getElem?_set_self (lt q1)] at q1
        rw [List.getElem?_set_self (by rw [h.len]; exact lt q2 |> fun _ => (by
          have := (List.getElem?_eq_some_iff.mp q3).1
          rw [List.length_set, h.len] at this
          exact this))] at q3
        rw [List.getElem?_set_ne e2] at q2 q4
        cases q1
        cases q3
        exact absurd q4 (hn xs rfl k ys q2)
    · by_cases e2 : i = k
      · subst e2
        rw [List.getElem?_set_self (lt q2)] at q2
        rw [List.getElem?_set_self (by
          have := (List.getElem?_eq_some_iff.mp q4).1
          rw [List.length_set] at this
          exact this)] at q4
        rw [List.getElem?_set_ne e1] at q1 q3
        cases q2
        cases q4
        exact absurd q3 (hn ys rfl j xs q1)
      · rw [List.getElem?_set_ne e1] at q1 q3
        rw [List.getElem?_set_ne e2] at q2 q4
        exact h.own j k p xs ys q1 q2 q3 q4
abbrev notO (k : W → List D → Prop) : W → List D → Prop := fun w pl => match w with
  | .o _ => False
  | w => k w pl
theorem ws_set {i : Nat} (h : WE c te ds pl (isD fun x p1 => E.nx (ds.set i (some (.d x))) p1)) : WS c (tAsg te (gName i)) ds pl E := fun G σ H hs D' f => h G σ H hs _ fun v G' H' w pl' h' e q z => by
  match w, q, z with
  | .d x, q, z => exact f.nx G' _ H' _ pl' (h'.set q fun xs z => by cases z) e z
theorem ws_setO {i : Nat} (h : WA c tr ds pl fun xs p1 => xs.length ≤ sizeLine ∧ E.nx (ds.set i (some (.o xs))) p1) : WS c (tAsg (tLst tr) (gName i)) ds pl E := fun G σ H hs D' f => h G σ H hs _ fun vs G1 H1 xs p1 h1 e1 f1 g1 => ⟨by rw [f1.len]; exact g1.1, fun p hp => by
    obtain ⟨n1, n2, n3, n4, n5⟩ := h1.none_of hp
    refine f.nx G1 _ _ _ p1 ((h1.newH hp).set (w := .o xs) ⟨p, vs, rfl, upd_same, f1, n1, n5, n3, n4, n2⟩ fun xs _ j ys q1 q2 => ?_) e1 g1.2
    obtain ⟨v, e2, p', us, rfl, b1, _⟩ := h1.slots j _ q1
    rw [e2] at q2
    have e3 : p' = p := V.ref.inj (Option.some.inj (Option.some.inj q2))
    rw [e3, hp] at b1
    cases b1⟩
theorem HS.chg (h : HS c G σ H ds pl) {i : Nat} {xs xs' : List D} {p : Addr} {us : List V} (hi : ds[i]? = some (some (.o xs))) (hs : σ[i]? = some (some (.ref p))) (hr : RA G us xs') : HS c G σ (upd H p (.lst us)) (ds.set i (some (.o xs'))) pl := by
  obtain ⟨v, e1, p', vs, rfl, b1, b2, b3, b4, b5, b6, b7⟩ := h.slots i _ hi
  have ep : p' = p := by rw [hs] at e1; exact (V.ref.inj (Option.some.inj (Option.some.inj e1))).symm
  subst ep
  have ne : ∀ a, a ≠ p' → (upd H p' (.lst us)) a = H a := fun a q => upd_ne q
  have hlt : i < ds.length := (List.getElem?_eq_some_iff.mp hi).1
  refine ⟨fun a o q => ?_, h.gh, h.gq, h.gn, fun a o q1 q2 => ?_, fun q z => ?_, fun a o q => ?_, fun a q => ?_, by rw [List.length_set]; exact h.len, fun j w q => ?_, fun j k p xs ys q1 q2 q3 q4 => ?_⟩
  · rw [ne a (fun e => by rw [e, b3] at q; cases q)]; exact h.sub a o q
  · rw [ne a (fun e => by rw [e, b4] at q2; cases q2)]; exact h.keep a o q1 q2
  · obtain ⟨c1, c2, vs', c3, c4⟩ := h.pl q z
    exact ⟨c1, c2, vs', by rw [ne q (fun e => b6 (e ▸ z))]; exact c3, c4⟩
  · rw [ne a (fun e => by rw [e, b5] at q; cases q)]; exact h.pin a o q
  · rw [ne a (fun e => b7 (e ▸ q))]; exact h.hid a q
  · by_cases e : i = j
    · subst e
      rw [List.getElem?_set_self hlt] at q
      cases q
      exact ⟨_, hs, p', us, rfl, upd_same, hr, b3, b4, b5, b6, b7⟩
    · rw [List.getElem?_set_ne e] at q
      obtain ⟨v, e1, e2⟩ := h.slots j w q
      refine ⟨v, e1, ?_⟩
      cases w with
      | d x => exact e2
      | v x => exact e2
      | o ys =>
        obtain ⟨q', us', rfl, d1, d2, d3⟩ := e2
        refine ⟨q', us', rfl, ?_, d2, d3⟩
        rw [ne q' (fun z => e (h.own i j p' xs ys hi q hs (by rw [z] at e1; exact e1)))]
        exact d1
  · have key : ∀ {m : Nat} {zs : List D}, (ds.set i (some (.o xs')))[m]? = some (some (.o zs)) → ∃ zs', ds[m]? = some (some (.o zs')) := fun {m zs} q => by
      by_cases e : i = m
      · subst e; exact ⟨_, hi⟩
      · rw [List.getElem?_set_ne e] at q; exact ⟨zs, q⟩
    obtain ⟨y1, r1⟩ := key q1
    obtain ⟨y2, r2⟩ := key q2
    exact h.own j k p y1 y2 r1 r2 q3 q4
theorem ws_app {i : Nat} {xs : List D} (hi : ds[i]? = some (some (.o xs))) (h : WE c te ds pl (isD fun x p1 => xs.length < sizeLine ∧ E.nx (ds.set i (some (.o (xs ++ [x])))) p1)) :
    WS c (tDrop (tBM K "list" rAppend (tVar i) (tCons te tNil))) ds pl E := fun G σ H hs D' f => by
  obtain ⟨v, e1, p, vs, rfl, b1, b2⟩ := hs.slots i _ hi
  refine ⟨_, e1, Or.inl ⟨rfl, _, SqL.of b1⟩, ?_⟩
  refine h G σ H hs _ fun v G1 H1 w p1 h1 e2 f1 g1 => ?_
  match w, f1, g1 with
  | .d x, f1, ⟨g1, g2⟩ =>
    obtain ⟨v', e1', p', vs', rfl, c1, c2, _⟩ := h1.slots i _ hi
    have ep : p' = p := by rw [e1] at e1'; exact (V.ref.inj (Option.some.inj (Option.some.inj e1'))).symm
    subst ep
    refine ⟨p', vs', v, rfl, rfl, c1, by rw [c2.len]; exact g1, ?_⟩
    exact f.nx G1 σ _ _ p1 (h1.chg hi e1 (c2.app (.cons f1 .nil))) e2 g2
theorem ws_setP {i : Nat} {p : Addr} {ti : TE} (hi : ds[i]? = some (some (.v (.ref p)))) (hp : c.pool = some p) (h : WE c te ds pl (isD fun x p1 => WE c ti ds p1 (isI fun k p2 => ∃ j, ixN p2.length k = some j ∧ E.nx ds (p2.set j x)))) :
    WS c (tAsg te (gSub (tVar i) ti rSetL)) ds pl E := fun G σ H hs D' f => by
  refine h G σ H hs _ fun v G1 H1 w p1 h1 e1 f1 g1 => ?_
  match w, f1, g1 with
  | .d x, f1, g1 =>
    obtain ⟨v0, q1, q2⟩ := h1.slots i _ hi
    have q2' : v0 = .ref p := q2
    subst q2'
    refine ⟨_, q1, ?_⟩
    refine g1 G1 σ H1 h1 _ fun u G2 H2 w2 p2 h2 e2 f2 g2 => ?_
    match w2, f2, g2 with
    | .d (.int k), f2, ⟨j, g2, g3⟩ =>
      cases f2
      obtain ⟨_, _, vs', c1, c2⟩ := h2.pl p hp
      refine ⟨p, vs', k, j, rfl, rfl, c1, by rw [c2.len]; exact g2, ?_⟩
      exact f.nx G2 σ _ _ _ (h2.setPool hp (c2.set (R.up f1 e2) j)) (e1.trans e2) g3
theorem ws_frz {i : Nat} {xs : List D} (hi : ds[i]? = some (some (.o xs))) (h : WS c t (ds.set i (some (.d (.list xs)))) pl E) : WS c t ds pl E := fun G σ H hs D' f => by
  obtain ⟨v, e1, p, vs, rfl, b1, b2, b3, b4, b5, b6, b7⟩ := hs.slots i _ hi
  have s2 : Ex G (upd G p (.lst vs)) := Ex.new b3
  have hlt : i < ds.length := (List.getElem?_eq_some_iff.mp hi).1
  refine h (upd G p (.lst vs)) σ H ⟨fun a o q => ?_, fun a q => ?_, fun a q => ?_, fun a o q => ?_, hs.keep, fun q z => ?_, hs.pin, hs.hid, by rw [List.length_set]; exact hs.len, fun j w q => ?_, fun j k p' xs' ys q1 q2 q3 q4 => ?_⟩ D' (f.up s2)
  · by_cases z : a = p
    · subst z; rw [upd_same] at q; cases q; exact b1
    · rw [upd_ne z] at q; exact hs.sub a o q
  · rw [upd_ne (fun z : a = p => b7 (z ▸ q))]; exact hs.gh a q
  · rw [upd_ne (fun z : a = p => b6 (z ▸ q))]; exact hs.gq a q
  · rw [upd_ne (fun z : a = p => by rw [z, b5] at q; cases q)]; exact hs.gn a o q
  · obtain ⟨c1, c2, vs', c3, c4⟩ := hs.pl q z
    exact ⟨c1, c2, vs', c3, c4.up s2⟩
  · by_cases e : i = j
    · subst e
      rw [List.getElem?_set_self hlt] at q
      cases q
      exact ⟨_, e1, R.lst upd_same (b2.up s2)⟩
    · rw [List.getElem?_set_ne e] at q
      obtain ⟨v, d1, d2⟩ := hs.slots j w q
      refine ⟨v, d1, ?_⟩
      cases w with
      | d x => exact R.up d2 s2
      | v x => exact d2
      | o ys =>
        obtain ⟨q', us', rfl, k1, k2, k3, k4⟩ := d2
        refine ⟨q', us', rfl, k1, k2.up s2, ?_, k4⟩
        rw [upd_ne (fun z : q' = p => e (hs.own i j p xs ys hi q e1 (by rw [z] at d1; exact d1)))]
        exact k3
  · have key : ∀ {m : Nat} {zs : List D}, (ds.set i (some (.d (.list xs))))[m]? = some (some (.o zs)) → ds[m]? = some (some (.o zs)) := fun {m zs} q => by
      by_cases e : i = m
      · subst e; rw [List.getElem?_set_self hlt] at q; cases q
      · rw [List.getElem?_set_ne e] at q; exact q
    exact hs.own j k p' xs' ys (key q1) (key q2) q3 q4
theorem ws_retO {i : Nat} {xs : List D} (hi : ds[i]? = some (some (.o xs))) (h : E.rt (.d (.list xs)) pl) : WS c (tRet (tVar i)) ds pl E :=
  ws_frz hi (ws_ret (we_var (w := .d (.list xs)) (List.getElem?_set_self (List.getElem?_eq_some_iff.mp hi).1) h))
theorem ws_unp {i j : Nat} (h : WE c te ds pl (isD fun d p1 => ∃ x y, d = .tuple [x, y] ∧ E.nx ((ds.set i (some (.d x))).set j (some (.d y))) p1)) : WS c (tAsg te (gTup K 2 (gCons (gName i) (gCons (gName j) gNil)))) ds pl E := fun G σ H hs D' f =>
  h G σ H hs _ fun v G1 H1 w p1 h1 e1 f1 g1 => by
    match w, f1, g1 with
    | .d d, f1, ⟨x, y, ed, g1⟩ =>
      subst ed
      cases f1 with
      | tup a b =>
        cases b with
        | cons r1 b =>
          cases b with
          | cons r2 b =>
            cases b
            refine ⟨_, _, rfl, SqT.of (h1.sub _ _ a), rfl, _, _, rfl, _, _, rfl, rfl, ?_⟩
            exact f.nx G1 _ H1 _ p1 ((h1.set (w := .d x) r1 fun xs z => by cases z).set (w := .d y) r2 fun xs z => by cases z) e1 g1
theorem ws_par {i j : Nat} (h : WA c tr ds pl fun xs p1 => ∃ x y, xs = [x, y] ∧ E.nx ((ds.set i (some (.d x))).set j (some (.d y))) p1) : WS c (tPar i j tr) ds pl E := fun G σ H hs D' f =>
  h G σ H hs _ fun vs G1 H1 xs p1 h1 e1 f1 ⟨x, y, e, g1⟩ => by
    subst e
    cases f1 with
    | cons r1 b =>
      cases b with
      | cons r2 b =>
        cases b
        exact ⟨_, _, rfl, f.nx G1 _ H1 _ p1 ((h1.set (w := .d x) r1 fun xs z => by cases z).set (w := .d y) r2 fun xs z => by cases z) e1 g1⟩

/-! ### loops -/
theorem ws_forL {j : Nat} {tl : TE} (I : Nat → DS → List D → Prop) (xs : List D) (h : WE c tl ds pl (isD fun d p1 => d = .list xs ∧ I 0 ds p1))
    (hs : ∀ i x ds' pl', xs[i]? = some x → I i ds' pl' → WS c t (ds'.set j (some (.d x))) pl' { nx := I (i + 1), ct := I (i + 1), bk := E.nx, rt := E.rt }) (hd : ∀ ds' pl', I xs.length ds' pl' → E.nx ds' pl') :
    WS c (tFor (iList K tl) (gName j) t) ds pl E := fun G σ H h0 D' f => h G σ H h0 _ fun v G1 H1 w p1 h1 e1 f1 g1 => by
  match w, f1, g1 with
  | .d d, f1, ⟨ed, g1⟩ =>
    subst ed
    cases f1 with
    | @lst a vs _ a1 b1 =>
    refine ⟨a, rfl, ⟨vs, SqL.of (h1.sub _ _ a1)⟩, for_list (K := K) (a := a) (xs := vs) (fun i σ' H' => ∃ G' ds' pl', HS c G' σ' H' ds' pl' ∧ Ex G1 G' ∧ I i ds' pl') ⟨G1, ds, p1, h1, Ex.refl _, g1⟩ ?_ ?_ ?_⟩
    · rintro i σ' H' _ ⟨G', ds', pl', h2, e2, _⟩
      exact SqL.of (h2.sub _ _ (e2 _ _ a1))
    · rintro i x σ' H' hx ⟨G', ds', pl', h2, e2, g2⟩
      obtain ⟨d, hd1, hd2⟩ := b1.get' hx
      refine hs i d ds' pl' hd1 g2 G' _ H' (h2.set (w := .d d) (R.up hd2 e2) fun xs z => by cases z) _ ⟨?_, ?_, ?_, ?_⟩
      · exact fun G3 σ3 H3 ds3 pl3 h3 e3 g3 => ⟨G3, ds3, pl3, h3, e2.trans e3, g3⟩
      · exact fun v G3 σ3 H3 ds3 w3 pl3 h3 e3 q3 g3 => f.rt v G3 σ3 H3 ds3 w3 pl3 h3 ((e1.trans e2).trans e3) q3 g3
      · exact fun G3 σ3 H3 ds3 pl3 h3 e3 g3 => f.nx G3 σ3 H3 ds3 pl3 h3 ((e1.trans e2).trans e3) g3
      · exact fun G3 σ3 H3 ds3 pl3 h3 e3 g3 => ⟨G3, ds3, pl3, h3, e2.trans e3, g3⟩
    · rintro σ' H' ⟨G', ds', pl', h2, e2, g2⟩
      rw [b1.len] at g2
      exact f.nx G' σ' H' ds' pl' h2 (e1.trans e2) (hd _ _ g2)
theorem for_rng {j : Nat} {G1 H1 : Hp} {p1 : List D} {D' : Ends} {lo : Int} {n : Nat} (I : Nat → DS → List D → Prop) (h1 : HS c G1 σ H1 ds p1) (f : Fits c G1 D' E) (g1 : I 0 ds p1)
    (hs : ∀ (i : Nat) ds' pl', i < n → I i ds' pl' → WS c t (ds'.set j (some (.d (.int (lo + i))))) pl' { nx := I (i + 1), ct := I (i + 1), bk := E.nx, rt := E.rt }) (hd : ∀ ds' pl', I n ds' pl' → E.nx ds' pl') :
    ∃ W : Nat → Nat → L2.St → Hp → Prop, (∃ m, W 0 m σ H1) ∧ ∀ i m σ H, W i m σ H → ((Itr lo n).stop i H ∧ D'.nx σ H) ∨ ((Itr lo n).go i H ∧ ∃ N : L2.St → Hp → Prop, (∀ σ' H', N σ' H' → ∃ m', m' < m ∧ W (i + 1) m' σ' H') ∧
      ∀ x H', (Itr lo n).yld i H x H' → gName j x σ H' fun σ2 H2 => t { D' with nx := N, ct := N, bk := D'.nx } σ2 H2) := by
  refine for_range (lo := lo) (n := n) (g := gName j) (fun i σ' H' => ∃ G' ds' pl', HS c G' σ' H' ds' pl' ∧ Ex G1 G' ∧ I i ds' pl') ⟨G1, ds, p1, h1, Ex.refl _, g1⟩ ?_ ?_
  · rintro i σ' H' hx ⟨G', ds', pl', h2, e2, g2⟩
    refine hs i ds' pl' hx g2 G' _ H' (h2.set (w := .d (.int (lo + i))) (R.int _) fun xs z => by cases z) _ ⟨?_, ?_, ?_, ?_⟩
    · exact fun G3 σ3 H3 ds3 pl3 h3 e3 g3 => ⟨G3, ds3, pl3, h3, e2.trans e3, g3⟩
    · exact fun v G3 σ3 H3 ds3 w3 pl3 h3 e3 q3 g3 => f.rt v G3 σ3 H3 ds3 w3 pl3 h3 (e2.trans e3) q3 g3
    · exact fun G3 σ3 H3 ds3 pl3 h3 e3 g3 => f.nx G3 σ3 H3 ds3 pl3 h3 (e2.trans e3) g3
    · exact fun G3 σ3 H3 ds3 pl3 h3 e3 g3 => ⟨G3, ds3, pl3, h3, e2.trans e3, g3⟩
  · rintro σ' H' ⟨G', ds', pl', h2, e2, g2⟩
    exact f.nx G' σ' H' ds' pl' h2 e2 (hd _ _ g2)
theorem ws_forR1 {j : Nat} (I : Nat → DS → List D → Prop) (n : Nat) (h : WA c tr ds pl fun xs p1 => ∃ k : Int, xs = [.int k] ∧ k.toNat = n ∧ -(2 ^ 62) ≤ k ∧ k < 2 ^ 62 ∧ I 0 ds p1)
    (hs : ∀ (i : Nat) ds' pl', i < n → I i ds' pl' → WS c t (ds'.set j (some (.d (.int i)))) pl' { nx := I (i + 1), ct := I (i + 1), bk := E.nx, rt := E.rt }) (hd : ∀ ds' pl', I n ds' pl' → E.nx ds' pl') :
    WS c (tFor (iRng1 tr) (gName j) t) ds pl E := fun G σ H h0 D' f => h G σ H h0 _ fun vs G1 H1 xs p1 h1 e1 f1 ⟨k, e, en, b1, b2, g1⟩ => by
  subst e en
  cases f1 with
  | cons r1 b =>
    cases b
    cases r1
    refine ⟨k, rfl, b1, b2, for_rng I h1 (f.up e1) g1 (fun i ds' pl' hi g => ?_) hd⟩
    rw [Int.zero_add]
    exact hs i ds' pl' hi g
theorem ws_forR2 {j : Nat} (I : Nat → DS → List D → Prop) (lo hi : Int) (h : WA c tr ds pl fun xs p1 => xs = [.int lo, .int hi] ∧ (-(2 ^ 62) ≤ lo ∧ lo < 2 ^ 62 ∧ -(2 ^ 62) ≤ hi ∧ hi < 2 ^ 62) ∧ I 0 ds p1)
    (hs : ∀ (i : Nat) ds' pl', i < (hi - lo).toNat → I i ds' pl' → WS c t (ds'.set j (some (.d (.int (lo + i))))) pl' { nx := I (i + 1), ct := I (i + 1), bk := E.nx, rt := E.rt }) (hd : ∀ ds' pl', I (hi - lo).toNat ds' pl' → E.nx ds' pl') :
    WS c (tFor (iRng2 tr) (gName j) t) ds pl E := fun G σ H h0 D' f => h G σ H h0 _ fun vs G1 H1 xs p1 h1 e1 f1 ⟨e, b1, g1⟩ => by
  subst e
  cases f1 with
  | cons r1 b =>
    cases b with
    | cons r2 b =>
      cases b
      cases r1
      cases r2
      exact ⟨lo, hi, rfl, b1, for_rng I h1 (f.up e1) g1 hs hd⟩
end
end PD

/-! PD4: sizes of data, repr, built-ins, comprehensions, defs whole -/
namespace PD
open PySem PySem.Spec PyProof.Rows L2 Evl

/-! ### data that is small enough to be shown and compared -/
def okD : Nat → D → Prop
  | _, .none => True
  | _, .bool _ => True
  | _, .int i => i.natAbs < 10 ^ 150
  | _, .str x => PyData.strOk x = true ∧ x.length ≤ 15
  | n + 1, .list xs => ∀ x ∈ xs, okD n x
  | n + 1, .tuple xs => ∀ x ∈ xs, okD n x
  | 0, .list _ => False
  | 0, .tuple _ => False
  | _, .dict _ => False
mutual
def cnt : D → Nat
  | .list xs => cntA xs + 1
  | .tuple xs => cntA xs + 1
  | _ => 1
def cntA : List D → Nat
  | [] => 0
  | x :: xs => cnt x + cntA xs
end
theorem cntA_ints : ∀ ns : List Int, cntA (ns.map PyData.int) = ns.length
  | [] => rfl
  | n :: ns => by
    show 1 + cntA (ns.map PyData.int) = ns.length + 1
    rw [cntA_ints ns]
    omega
theorem okD_up {n : Nat} : ∀ {m : Nat} {d : D}, okD m d → m ≤ n → okD n d := by
  induction n with
  | zero =>
    intro m d h e
    have e0 : m = 0 := by omega
    subst e0
    exact h
  | succ n ih =>
    intro m d h e
    cases m with
    | zero => cases d <;> first | exact h | exact h.elim
    | succ m => cases d <;> first | exact h | exact fun x hx => ih (h x hx) (by omega)
theorem int_shown {i : Int} (h : i.natAbs < 10 ^ 150) : (PyData.shown (.int i)).length ≤ 151 ∧ i.natAbs.log2 < 1920 := by
  constructor
  · have e := int_text_length_le10 (k := 150) (by decide) h
    show (Str.ofString (toString i)).length ≤ 151
    rw [PySem.ofString_length]
    exact e
  · have h2 : i.natAbs < 2 ^ 600 := Nat.lt_trans h (by decide +kernel)
    exact Nat.lt_of_lt_of_le (PySem.Flt.log2_lt_of (by decide) h2) (by decide)
structure Fine (n : Nat) (d : D) : Prop where
  show_ : d.showable = true
  nodict : d.hasDict = false
  depth : d.depth ≤ n + 1
  lay : d.canLay0 = true
  len : d.shown.length + 2 ≤ 220 * cnt d
structure FineA (n : Nat) (ds : List D) : Prop where
  show_ : PyData.showableAll ds = true
  nodict : PyData.hasDictAll ds = false
  depth : PyData.depthAll ds ≤ n + 1
  lay : PyData.canLayAll0 ds = true
  len : ((PyData.shownAll ds).map (·.length)).sum + 2 * ds.length ≤ 220 * cntA ds
  same : (PyData.shownAll ds).length = ds.length
theorem fineA_of {n : Nat} : ∀ {ds : List D}, (∀ x ∈ ds, Fine n x) → FineA n ds
  | [], _ => ⟨rfl, rfl, Nat.zero_le _, rfl, Nat.zero_le _, rfl⟩
  | d :: ds, h => by
    have a := h d List.mem_cons_self
    have b := fineA_of (ds := ds) fun x hx => h x (List.mem_cons_of_mem _ hx)
    refine ⟨?_, ?_, ?_, ?_, ?_, ?_⟩
    · simp only [PyData.showableAll, a.show_, b.show_, Bool.and_self]
    · simp only [PyData.hasDictAll, a.nodict, b.nodict, Bool.or_self]
    · simp only [PyData.depthAll]
      exact Nat.max_le.mpr ⟨a.depth, b.depth⟩
    · simp only [PyData.canLayAll0, a.lay, b.lay, Bool.and_self]
    · have e : cntA (d :: ds) = cnt d + cntA ds := rfl
      have h1 := a.len
      have h2 := b.len
      rw [e, Nat.mul_add]
      simp only [PyData.shownAll, List.map_cons, List.sum_cons, List.length_cons]
      omega
    · simp only [PyData.shownAll, List.length_cons, b.same]
theorem fine_of : ∀ {n : Nat} {d : D}, okD n d → Fine n d := by
  intro n
  induction n with
  | zero =>
    intro d h
    cases d with
    | none => exact ⟨rfl, rfl, Nat.zero_le _, rfl, by decide⟩
    | bool b => exact ⟨rfl, rfl, Nat.zero_le _, rfl, by cases b <;> decide⟩
    | int i =>
      obtain ⟨a, b⟩ := int_shown (show i.natAbs < 10 ^ 150 from h)
      refine ⟨by simp only [PyData.showable, decide_eq_true_eq]; exact b, rfl, Nat.zero_le _, rfl, ?_⟩
      show (PyData.shown (.int i)).length + 2 ≤ 220 * 1
      omega
    | str x =>
      obtain ⟨a, b⟩ := (show PyData.strOk x = true ∧ x.length ≤ 15 from h)
      refine ⟨rfl, rfl, Nat.zero_le _, a, ?_⟩
      have h0 : ∀ c ∈ x.cps.toList, c < 16 ^ 8 := by
        intro c hc
        have a' : x.cps.all (· < 0x110000) = true := a
        have := (Array.all_eq_true_iff_forall_mem.mp a') c (Array.mem_toList_iff.mp hc)
        have e : (16 : Nat) ^ 8 = 4294967296 := by decide
        have q : c < 0x110000 := by simpa using this
        omega
      have := StrLaws.reprText_len x h0
      show (reprText x).length + 2 ≤ 220 * 1
      omega
    | list xs => exact (show False from h).elim
    | tuple xs => exact (show False from h).elim
    | dict _ => exact (show False from h).elim
  | succ n ih =>
    intro d h
    cases d with
    | none => exact ⟨rfl, rfl, Nat.zero_le _, rfl, by decide⟩
    | bool b => exact ⟨rfl, rfl, Nat.zero_le _, rfl, by cases b <;> decide⟩
    | int i =>
      obtain ⟨a, b⟩ := int_shown (show i.natAbs < 10 ^ 150 from h)
      refine ⟨by simp only [PyData.showable, decide_eq_true_eq]; exact b, rfl, Nat.zero_le _, rfl, ?_⟩
      show (PyData.shown (.int i)).length + 2 ≤ 220 * 1
      omega
    | str x =>
      have q := ih (d := .str x) (by cases n <;> exact h)
      exact ⟨q.show_, q.nodict, by have := q.depth; omega, q.lay, q.len⟩
    | list xs =>
      have a := fineA_of fun x hx => ih ((show ∀ x ∈ xs, okD n x from h) x hx)
      refine ⟨by simp only [PyData.showable, a.show_], by simp only [PyData.hasDict, a.nodict], by simp only [PyData.depth]; have := a.depth; omega, by simp only [PyData.canLay0, a.lay], ?_⟩
      have e : cnt (.list xs) = cntA xs + 1 := rfl
      have h1 := listText_len_le (PyData.shownAll xs)
      have h2 := a.len
      have h3 := a.same
      rw [e]
      simp only [PyData.shown]
      omega
    | tuple xs =>
      have a := fineA_of fun x hx => ih ((show ∀ x ∈ xs, okD n x from h) x hx)
      refine ⟨by simp only [PyData.showable, a.show_], by simp only [PyData.hasDict, a.nodict], by simp only [PyData.depth]; have := a.depth; omega, by simp only [PyData.canLay0, a.lay], ?_⟩
      have e : cnt (.tuple xs) = cntA xs + 1 := rfl
      have h1 := tupleText_len_le (PyData.shownAll xs)
      have h2 := a.len
      have h3 := a.same
      rw [e]
      simp only [PyData.shown]
      omega
    | dict _ => exact (show False from h).elim
theorem shaped_of {d : D} (h : okD 20 d) : SeqAt.shaped d = true := by
  have f := fine_of h
  unfold SeqAt.shaped
  rw [f.lay]
  exact decide_eq_true (by have := f.depth; omega)

/-! ### repr -/
def rRepr (K : PySem.W.Frag) : List V → Hp → VK → Prop := fun xs H Q => ∃ v d, xs = [v] ∧ Dp K H v d ∧ okD 20 d ∧ cnt d ≤ 60000 ∧ Q (.str d.shown) H
section
variable {X : Cx}
theorem call_repr (hG : X.A.guards = some []) (hu : X.A.units + 64 < cLine) : CallR X (.builtin "repr") (rRepr X.K) := by
  intro pins s σ H xs us Q I r h
  obtain ⟨v, d, rfl, hd, ok, hc, q⟩ := h
  obtain ⟨u, rfl, ru⟩ := vals1 r
  obtain ⟨as, rd⟩ := Dp.reads I d v u hd ru
  have f := fine_of ok
  have hz : d.shown.length ≤ sizeLine := by
    have := f.len
    rw [sizeLine_eq]
    omega
  cases hd with
  | non =>
    cases ru
    exact PySem.P.repr_of_none ⟨.str _, H, I.tok _, ⟨_, rfl⟩, q⟩
  | bl b =>
    cases ru
    refine PySem.P.repr_of_bool ⟨.str _, H, I.tok _, ⟨_, rfl⟩, ?_⟩
    exact q
  | int i =>
    obtain ⟨t, rfl⟩ := ru
    have b := f.show_
    simp only [PyData.showable, decide_eq_true_eq] at b
    exact PySem.P.repr_of_int b ⟨.str _, H, I.tok _, ⟨_, rfl⟩, q⟩
  | str x =>
    obtain ⟨t, rfl⟩ := ru
    exact PySem.P.repr_of_str ⟨.str _, H, I.tok _, ⟨_, rfl⟩, q⟩ hz
  | lst a b =>
    cases ru
    refine repr_of_reads' rd f.show_ (PyData.noDict_hsm f.nodict) hG (by have := f.depth; omega) (fun _ _ z => z) (fun h' u tk hk => ?_) hz
    exact ⟨.str _, H, I.kept hk, ⟨u, rfl⟩, q⟩
  | tup a b =>
    cases ru
    refine repr_of_reads' rd f.show_ (PyData.noDict_hsm f.nodict) hG (by have := f.depth; omega) (fun _ _ z => z) (fun h' u tk hk => ?_) hz
    exact ⟨.str _, H, I.kept hk, ⟨u, rfl⟩, q⟩
def CPowW (i j : Int) : Prop := 0 ≤ j ∧ j ≤ 1000 ∧ i.natAbs < 2 ^ 2000
theorem op_powW : OpR X (binaryOp .Pow) (rI CPowW fun i j => .int (i ^ j.toNat)) := opI fun i j _ _ _ _ _ hc q => by
  refine pow_int hc.1 ?_ q
  have b : Builtin.Int.intBits i ≤ 2001 := by
    have h1 := PySem.Flt.log2_lt_of (by decide) hc.2.2
    unfold Builtin.Int.intBits
    split <;> omega
  have h2 : (Builtin.Int.intBits i : Int) * j ≤ 2001 * 1000 := Int.mul_le_mul (by omega) hc.2.1 hc.1 (by omega)
  omega
end

section
variable {c : Cn} {K : PySem.W.Frag} {ds : DS} {pl : List D} {Φ : W → List D → Prop} {ta tb te : TE} {tr : TA}
/-! ### calls of built-ins -/
def CbS (c : Cn) (r : List V → Hp → VK → Prop) (ds : DS) (xs : List D) (p1 : List D) (Φ : W → List D → Prop) : Prop := ∀ G σ H vs, HS c G σ H ds p1 → RA G vs xs → ∀ Q : VK, Co c ds G σ Φ Q → r vs H Q
theorem we_cb {r : List V → Hp → VK → Prop} (ha : WA c tr ds pl fun xs p1 => CbS c r ds xs p1 Φ) : WE c (tCB r tr) ds pl Φ := fun G σ H hs Q q =>
  ha G σ H hs _ fun vs G1 H1 xs p1 h1 e1 f1 g1 => g1 G1 σ H1 vs h1 f1 Q fun z G2 H2 w p3 h2 e2 f2 g2 => q z G2 H2 w p3 h2 (e1.trans e2) f2 g2
theorem ra1 {G : Hp} {vs : List V} {d : D} (h : RA G vs [d]) : ∃ v, vs = [v] ∧ R G v d := by
  cases h with
  | cons a b => cases b; exact ⟨_, rfl, a⟩
theorem ra2 {G : Hp} {vs : List V} {d e : D} (h : RA G vs [d, e]) : ∃ v u, vs = [v, u] ∧ R G v d ∧ R G u e := by
  cases h with
  | cons a b =>
    cases b with
    | cons a' b => cases b; exact ⟨_, _, rfl, a, a'⟩
theorem cb_abs {i : Int} (h : Φ (.d (.int i.natAbs)) pl) : CbS c (fun xs H Q => ∃ i, xs = [.int i] ∧ Q (.int (if i < 0 then -i else i)) H) ds [.int i] pl Φ := fun G σ H vs hs f Q q => by
  obtain ⟨v, rfl, a⟩ := ra1 f
  cases a
  refine ⟨i, rfl, ?_⟩
  have e : (if i < 0 then -i else i) = ((i.natAbs : Nat) : Int) := by split <;> omega
  rw [e]
  exact q _ G H (.d _) pl hs (Ex.refl _) (R.int _) h
theorem cb_max2 {i j : Int} (h : Φ (.d (.int (max i j))) pl) : CbS c (fun xs H Q => ∃ i j, xs = [.int i, .int j] ∧ Q (.int (if j > i then j else i)) H) ds [.int i, .int j] pl Φ := fun G σ H vs hs f Q q => by
  obtain ⟨v, u, rfl, a, b⟩ := ra2 f
  cases a
  cases b
  refine ⟨i, j, rfl, ?_⟩
  have e : (if j > i then j else i) = max i j := by split <;> omega
  rw [e]
  exact q _ G H (.d _) pl hs (Ex.refl _) (R.int _) h
theorem cb_min2 {i j : Int} (h : Φ (.d (.int (min i j))) pl) : CbS c (fun xs H Q => ∃ i j, xs = [.int i, .int j] ∧ Q (.int (if j < i then j else i)) H) ds [.int i, .int j] pl Φ := fun G σ H vs hs f Q q => by
  obtain ⟨v, u, rfl, a, b⟩ := ra2 f
  cases a
  cases b
  refine ⟨i, j, rfl, ?_⟩
  have e : (if j < i then j else i) = min i j := by split <;> omega
  rw [e]
  exact q _ G H (.d _) pl hs (Ex.refl _) (R.int _) h
abbrev rInt1 : List V → Hp → VK → Prop := fun xs H Q => (∃ i, xs = [.int i] ∧ Q (.int i) H) ∨ ∃ k, xs = [.bl k] ∧ Q (.int (if k then 1 else 0)) H
theorem cb_int {i : Int} (h : Φ (.d (.int i)) pl) : CbS c rInt1 ds [.int i] pl Φ := fun G σ H vs hs f Q q => by
  obtain ⟨v, rfl, a⟩ := ra1 f
  cases a
  exact .inl ⟨i, rfl, q _ G H (.d _) pl hs (Ex.refl _) (R.int _) h⟩
theorem cb_intB {b : Bool} (h : Φ (.d (.int (if b then 1 else 0))) pl) : CbS c rInt1 ds [.bool b] pl Φ := fun G σ H vs hs f Q q => by
  obtain ⟨v, rfl, a⟩ := ra1 f
  cases a
  exact .inr ⟨b, rfl, q _ G H (.d _) pl hs (Ex.refl _) (R.int _) h⟩
abbrev rLenQ (K : PySem.W.Frag) : List V → Hp → VK → Prop := fun xs H Q => ∃ p ys, xs = [.ref p] ∧ (SqL K H p ys ∨ SqT K H p ys) ∧ Q (.int ys.length) H
theorem cb_lenL {xs : List D} (h : Φ (.d (.int xs.length)) pl) : CbS c (rLenQ K) ds [.list xs] pl Φ := fun G σ H vs hs f Q q => by
  obtain ⟨v, rfl, a⟩ := ra1 f
  cases a with
  | lst a b =>
    refine ⟨_, _, rfl, .inl (SqL.of (hs.sub _ _ a)), ?_⟩
    rw [b.len]
    exact q _ G H (.d _) pl hs (Ex.refl _) (R.int _) h
theorem cb_lenT {xs : List D} (h : Φ (.d (.int xs.length)) pl) : CbS c (rLenQ K) ds [.tuple xs] pl Φ := fun G σ H vs hs f Q q => by
  obtain ⟨v, rfl, a⟩ := ra1 f
  cases a with
  | tup a b =>
    refine ⟨_, _, rfl, .inr (SqT.of (hs.sub _ _ a)), ?_⟩
    rw [b.len]
    exact q _ G H (.d _) pl hs (Ex.refl _) (R.int _) h
abbrev rListQ (K : PySem.W.Frag) : List V → Hp → VK → Prop := fun xs H Q => ∃ p ys, xs = [.ref p] ∧ (SqL K H p ys ∨ SqT K H p ys) ∧ ∀ l, H l = none → Q (.ref l) (upd H l (.lst ys))
theorem cb_list {xs : List D} (h : Φ (.d (.list xs)) pl) : CbS c (rListQ K) ds [.list xs] pl Φ := fun G σ H vs hs f Q q => by
  obtain ⟨v, rfl, a⟩ := ra1 f
  cases a with
  | lst a b =>
    refine ⟨_, _, rfl, .inl (SqL.of (hs.sub _ _ a)), fun l hl => ?_⟩
    have n := hs.none_of hl
    exact q _ _ _ (.d (.list xs)) pl (hs.newD hl) (Ex.new n.1) (R.lst upd_same (b.up (Ex.new n.1))) h
theorem cb_repr {d : D} (h1 : okD 20 d) (h2 : cnt d ≤ 60000) (h : Φ (.d (.str d.shown)) pl) : CbS c (rRepr K) ds [d] pl Φ := fun G σ H vs hs f Q q => by
  obtain ⟨v, rfl, a⟩ := ra1 f
  exact ⟨v, d, rfl, R.dp _ _ (a.up hs.sub), h1, h2, q _ G H (.d _) pl hs (Ex.refl _) (R.str _) h⟩
theorem rgV_ints (n : Nat) : rgV 0 (n : Int) = ((List.range n).map fun (i : Nat) => (i : Int)).map V.int := by
  unfold rgV
  rw [List.map_map]
  have e : ((n : Int) - 0).toNat = n := by omega
  rw [e]
  refine List.map_congr_left fun i _ => ?_
  show V.int (0 + (i : Int)) = V.int (i : Int)
  rw [Int.zero_add]
/-! ### slices -/
theorem cutV_RA {G : Hp} {vs : List V} {xs : List D} (h : RA G vs xs) (lo hi : Option Int) : RA G (cutV vs lo hi) ((xs.drop (HT.sIx xs.length 0 lo)).take (HT.sIx xs.length xs.length hi - HT.sIx xs.length 0 lo)) := by
  unfold cutV
  rw [h.len]
  exact (h.drop _).take _
def WO (c : Cn) (to : TO) (ds : DS) (pl : List D) (Φ : Option Int → List D → Prop) : Prop := ∀ G σ H, HS c G σ H ds pl → ∀ Q : Option Int → Hp → Prop,
  (∀ o G' H' pl', HS c G' σ H' ds pl' → Ex G G' → Φ o pl' → Q o H') → to σ H Q
theorem wo_none {Φ : Option Int → List D → Prop} (h : Φ none pl) : WO c tNoPart ds pl Φ := fun G σ H hs Q q => q none G H pl hs (Ex.refl _) h
theorem wo_some {Φ : Option Int → List D → Prop} (h : WE c te ds pl (isI fun i p1 => Φ (some i) p1)) : WO c (tPart te) ds pl Φ := fun G σ H hs Q q => h G σ H hs _ fun v G1 H1 w p1 h1 e1 f1 g1 => by
  match w, f1, g1 with
  | .d (.int k), f1, g1 =>
    cases f1
    exact ⟨k, rfl, q _ G1 H1 p1 h1 e1 g1⟩
def cutD (xs : List D) (lo hi : Option Int) : List D := (xs.drop (HT.sIx xs.length 0 lo)).take (HT.sIx xs.length xs.length hi - HT.sIx xs.length 0 lo)
theorem we_slice {tl th : TO} (ha : WE c ta ds pl (isD fun x p1 => ∃ xs, x = .list xs ∧ WO c tl ds p1 fun lo p2 => WO c th ds p2 fun hi p3 => Φ (.d (.list (cutD xs lo hi))) p3)) : WE c (tSl (rSlL K) ta tl th) ds pl Φ := fun G σ H hs Q q =>
  ha G σ H hs _ fun v G1 H1 w p1 h1 e1 f1 g1 => by
    match w, f1, g1 with
    | .d x, f1, ⟨xs, ex, g1⟩ =>
      subst ex
      refine g1 G1 σ H1 h1 _ fun lo G2 H2 p2 h2 e2 g2 => g2 G2 σ H2 h2 _ fun hi G3 H3 p3 h3 e3 g3 => ?_
      cases f1 with
      | lst a b =>
        refine ⟨_, _, rfl, SqL.of (h3.sub _ _ (e3 _ _ (e2 _ _ a))), fun l hl => ?_⟩
        have n := h3.none_of hl
        exact q _ _ _ (.d _) p3 (h3.newD hl) ((e1.trans (e2.trans e3)).trans (Ex.new n.1)) (R.lst upd_same ((cutV_RA b lo hi).up ((e2.trans e3).trans (Ex.new n.1)))) g3

/-! ### comprehensions -/
def wipeD (ds : DS) : List Nat → DS
  | [] => ds
  | v :: vs => (wipeD ds vs).set v none
theorem HS.wipe1 (h : HS c G σ H ds pl) (i : Nat) : HS c G (σ.set i none) H (ds.set i none) pl := by
  refine ⟨h.sub, h.gh, h.gq, h.gn, h.keep, h.pl, h.pin, h.hid, by rw [List.length_set, List.length_set, h.len], fun j w' q => ?_, fun j k p xs ys q1 q2 q3 q4 => ?_⟩
  · by_cases e : i = j
    · subst e
      have hj : i < ds.length := by
        have := (List.getElem?_eq_some_iff.mp q).1
        rw [List.length_set] at this
        exact this
      rw [List.getElem?_set_self hj] at q
      cases q
    · rw [List.getElem?_set_ne e] at q
      obtain ⟨v', e1, e2⟩ := h.slots j w' q
      exact ⟨v', by rw [List.getElem?_set_ne e]; exact e1, e2⟩
  · have go : ∀ {m : Nat} {z : V}, (σ.set i none)[m]? = some (some z) → σ[m]? = some (some z) ∧ i ≠ m := fun {m z} q => by
      by_cases e : i = m
      · subst e
        have hj : i < σ.length := by
          have := (List.getElem?_eq_some_iff.mp q).1
          rw [List.length_set] at this
          exact this
        rw [List.getElem?_set_self hj] at q
        cases q
      · rw [List.getElem?_set_ne e] at q
        exact ⟨q, e⟩
    obtain ⟨a1, b1⟩ := go q3
    obtain ⟨a2, b2⟩ := go q4
    rw [List.getElem?_set_ne b1] at q1
    rw [List.getElem?_set_ne b2] at q2
    exact h.own j k p xs ys q1 q2 a1 a2
theorem HS.wipe (h : HS c G σ H ds pl) : ∀ vs : List Nat, HS c G (L2.wipe σ vs) H (wipeD ds vs) pl
  | [] => h
  | v :: vs => (HS.wipe h vs).wipe1 v
def Cn.with (c : Cn) (Dl : Addr) (o : HO) : Cn := { c with pin := fun a => if a = Dl then some o else c.pin a }
structure DF (c : Cn) (σ : L2.St) (ds : DS) (Dl : Addr) : Prop where
  h0 : c.H0 Dl = none
  pin : c.pin Dl = none
  pool : c.pool ≠ some Dl
  hd : ¬ c.hd Dl
  ne : ∀ (i : Nat) (xs : List D) (p : Addr), ds[i]? = some (some (W.o xs)) → σ[i]? = some (some (.ref p)) → p ≠ Dl
theorem with_at {Dl : Addr} {o : HO} : (c.with Dl o).pin Dl = some o := if_pos rfl
theorem with_ne {Dl a : Addr} {o : HO} (h : a ≠ Dl) : (c.with Dl o).pin a = c.pin a := if_neg h
theorem HS.to_with (h : HS c G σ H ds pl) {Dl : Addr} {o : HO} (f : DF c σ ds Dl) (hD : H Dl = some o) (gD : G Dl = none) : HS (c.with Dl o) G σ H ds pl := by
  refine ⟨h.sub, h.gh, h.gq, fun a u q => ?_, h.keep, fun p z => ?_, fun a u q => ?_, h.hid, h.len, fun i w q => ?_, h.own⟩
  · by_cases e : a = Dl
    · subst e; exact gD
    · rw [with_ne e] at q; exact h.gn a u q
  · obtain ⟨b1, b2, b3⟩ := h.pl p z
    exact ⟨b1, by rw [with_ne (fun e : p = Dl => f.pool (e ▸ z))]; exact b2, b3⟩
  · by_cases e : a = Dl
    · subst e; rw [with_at] at q; cases q; exact hD
    · rw [with_ne e] at q; exact h.pin a u q
  · obtain ⟨v, e1, e2⟩ := h.slots i w q
    refine ⟨v, e1, ?_⟩
    cases w with
    | d x => exact e2
    | v x => exact e2
    | o xs =>
      obtain ⟨p, vs, rfl, a1, a2, a3, a4, a5, a6, a7⟩ := e2
      exact ⟨p, vs, rfl, a1, a2, a3, a4, by rw [with_ne (f.ne i xs p q e1)]; exact a5, a6, a7⟩
theorem HS.push (h : HS c G σ H ds pl) {Dl : Addr} {o : HO} (f : DF c σ ds Dl) (gD : G Dl = none) : HS c G σ (upd H Dl o) ds pl := by
  have ne : ∀ a, a ≠ Dl → (upd H Dl o) a = H a := fun a q => upd_ne q
  refine ⟨fun a u q => ?_, h.gh, h.gq, h.gn, fun a u q1 q2 => ?_, fun p z => ?_, fun a u q => ?_, fun a q => ?_, h.len, fun i w q => ?_, h.own⟩
  · rw [ne a (fun e => by rw [e, gD] at q; cases q)]; exact h.sub a u q
  · rw [ne a (fun e => by rw [e, f.h0] at q2; cases q2)]; exact h.keep a u q1 q2
  · obtain ⟨b1, b2, vs, b3, b4⟩ := h.pl p z
    exact ⟨b1, b2, vs, by rw [ne p (fun e => f.pool (e ▸ z))]; exact b3, b4⟩
  · rw [ne a (fun e => by rw [e, f.pin] at q; cases q)]; exact h.pin a u q
  · rw [ne a (fun e => f.hd (e ▸ q))]; exact h.hid a q
  · obtain ⟨v, e1, e2⟩ := h.slots i w q
    refine ⟨v, e1, ?_⟩
    cases w with
    | d x => exact e2
    | v x => exact e2
    | o xs =>
      obtain ⟨p, vs, rfl, a1, a2⟩ := e2
      exact ⟨p, vs, rfl, by rw [ne p (f.ne i xs p q e1)]; exact a1, a2⟩
theorem HS.back (h : HS c G σ H ds pl) {Dl : Addr} {o : HO} {G3 H3 : Hp} {σ2 : L2.St} {ds2 : DS} {p3 : List D} (f : DF c σ ds Dl) (h3 : HS (c.with Dl o) G3 σ2 H3 ds2 p3) (e : Ex G G3)
    (ho : ∀ (i : Nat) (xs : List D), ds[i]? = some (some (W.o xs)) → ds2[i]? = some (some (W.o xs)) ∧ σ2[i]? = σ[i]?) : HS c G3 σ H3 ds p3 := by
  refine ⟨h3.sub, h3.gh, h3.gq, fun a u q => ?_, h3.keep, fun p z => ?_, fun a u q => ?_, h3.hid, h.len, fun i w q => ?_, h.own⟩
  · refine h3.gn a u ?_
    rw [with_ne (fun e => by rw [e, f.pin] at q; cases q)]; exact q
  · obtain ⟨b1, b2, b3⟩ := h3.pl p z
    rw [with_ne (fun e : p = Dl => f.pool (e ▸ z))] at b2
    exact ⟨b1, b2, b3⟩
  · refine h3.pin a u ?_
    rw [with_ne (fun e => by rw [e, f.pin] at q; cases q)]; exact q
  · obtain ⟨v, e1, e2⟩ := h.slots i w q
    refine ⟨v, e1, ?_⟩
    cases w with
    | d x => exact R.up e2 e
    | v x => exact e2
    | o xs =>
      obtain ⟨k1, k2⟩ := ho i xs q
      obtain ⟨v', d1, p, us, d2, d3, d4, d5, d6, d7, d8, d9⟩ := h3.slots i _ k1
      have ev : v' = v := by rw [k2, e1] at d1; exact (Option.some.inj (Option.some.inj d1)).symm
      subst ev
      subst d2
      rw [with_ne (f.ne i xs p q e1)] at d7
      exact ⟨p, us, rfl, d3, d4, d5, d6, d7, d8, d9⟩
def PvC (c : Cn) (σ : L2.St) (ds : DS) (G1 : Hp) (Dl : Addr) (J : Nat → List D → List D → Prop) (i : Nat) (H' : Hp) : Prop :=
  ∃ G' pl' acc us, HS c G' σ H' ds pl' ∧ Ex G1 G' ∧ H' Dl = some (.lst us) ∧ RA G' us acc ∧ G' Dl = none ∧ J i acc pl'
theorem wipe_other {α : Type} {l : List (Option α)} {i : Nat} : ∀ {vs : List Nat}, i ∉ vs → ∀ {f : List Nat → List (Option α)}, (f [] = l) → (∀ v r, f (v :: r) = (f r).set v none) → (f vs)[i]? = l[i]?
  | [], _, f, h0, _ => by rw [h0]
  | v :: vs, hn, f, h0, h1 => by
    rw [h1, List.getElem?_set_ne (fun e : v = i => hn (e ▸ List.mem_cons_self))]
    exact wipe_other (fun q => hn (List.mem_cons_of_mem _ q)) h0 h1
theorem wipe_ne {σ : L2.St} {i : Nat} {vs : List Nat} (h : i ∉ vs) : (L2.wipe σ vs)[i]? = σ[i]? := wipe_other h (f := fun vs => L2.wipe σ vs) rfl fun _ _ => rfl
theorem wipeD_ne {ds : DS} {i : Nat} {vs : List Nat} (h : i ∉ vs) : (wipeD ds vs)[i]? = ds[i]? := wipe_other h (f := fun vs => wipeD ds vs) rfl fun _ _ => rfl
section
variable {tt : TT} {j : Nat}
theorem lc_turnD (J : Nat → List D → List D → Prop) {G1 : Hp} {Dl : Addr} {i : Nat} {v : V} {x : D} {H' : Hp} (f : DF c σ ds Dl) (hj : ∀ (xs : List D), ds[j]? ≠ some (some (W.o xs))) (p : PvC c σ ds G1 Dl J i H') (hx : ∀ G', Ex G1 G' → R G' v x)
    (user : ∀ acc pl', J i acc pl' → ∀ pin, WT { c with pin := pin } tt ((wipeD ds [j]).set j (some (.d x))) pl' fun b p2 => if b = true then WE { c with pin := pin } te ((wipeD ds [j]).set j (some (.d x))) p2
      (isD fun y p3 => acc.length < sizeLine ∧ J (i + 1) (acc ++ [y]) p3) else J (i + 1) acc p2) :
    tt ((L2.wipe σ [j]).set j (some v)) H' fun b H3 => if b = true then te ((L2.wipe σ [j]).set j (some v)) H3 fun y H4 => ∃ acc, H4 Dl = some (.lst acc) ∧ acc.length < sizeLine ∧ PvC c σ ds G1 Dl J (i + 1) (upd H4 Dl (.lst (acc ++ [y]))) else PvC c σ ds G1 Dl J (i + 1) H3 := by
  obtain ⟨G', pl', acc, us, h, e1, hD, ra, gD, hJ⟩ := p
  have hw : HS c G' ((L2.wipe σ [j]).set j (some v)) H' ((wipeD ds [j]).set j (some (.d x))) pl' := (h.wipe [j]).set (w := .d x) (hx G' e1) fun xs z => by cases z
  have same : ∀ (i : Nat) (xs : List D), ds[i]? = some (some (W.o xs)) → ((wipeD ds [j]).set j (some (.d x)))[i]? = some (some (W.o xs)) ∧ ((L2.wipe σ [j]).set j (some v))[i]? = σ[i]? := fun i xs q => by
    have ne : j ≠ i := fun e => hj xs (e ▸ q)
    have nm : i ∉ [j] := fun z => ne (List.mem_singleton.mp z).symm
    rw [List.getElem?_set_ne ne, List.getElem?_set_ne ne, wipeD_ne nm, wipe_ne nm]
    exact ⟨q, rfl⟩
  have f2 : DF c ((L2.wipe σ [j]).set j (some v)) ((wipeD ds [j]).set j (some (.d x))) Dl := ⟨f.h0, f.pin, f.pool, f.hd, fun i xs p q1 q2 => by
    by_cases e : j = i
    · subst e
      have hlt : j < ((wipeD ds [j])).length := by
        have := (List.getElem?_eq_some_iff.mp q1).1
        rw [List.length_set] at this
        exact this
      rw [List.getElem?_set_self hlt] at q1
      cases q1
    · have nm : i ∉ [j] := fun z => e (List.mem_singleton.mp z).symm
      rw [List.getElem?_set_ne e, wipeD_ne nm] at q1
      rw [List.getElem?_set_ne e, wipe_ne nm] at q2
      exact f.ne i xs p q1 q2⟩
  refine user acc pl' hJ _ G' _ H' (hw.to_with f2 hD gD) _ fun b G2 H2 p2 h2 e2 g2 => ?_
  cases b with
  | true =>
    refine (show WE _ te _ p2 _ from g2) G2 _ H2 h2 _ fun y G3 H3 w p3 h3 e3 f3 g3 => ?_
    match w, f3, g3 with
    | .d z, f3, ⟨g3, g4⟩ =>
      have b3 := h.back f h3 (e2.trans e3) same
      have dD : G3 Dl = none := h3.gn Dl _ with_at
      exact ⟨us, h3.pin Dl _ with_at, by rw [ra.len]; exact g3, G3, p3, acc ++ [z], us ++ [y], b3.push f dD, e1.trans (e2.trans e3), upd_same, (ra.up (e2.trans e3)).app (.cons f3 .nil), dD, g4⟩
  | false =>
    exact ⟨G2, p2, acc, us, h.back f h2 e2 same, e1.trans e2, h2.pin Dl _ with_at, ra.up e2, h2.gn Dl _ with_at, g2⟩
theorem df_new {H1 : Hp} (h : HS c G σ H1 ds pl) {Dl : Addr} (hD : H1 Dl = none) : DF c σ ds Dl := by
  obtain ⟨n1, n2, n3, n4, n5⟩ := h.none_of hD
  refine ⟨n5, n3, n4, n2, fun i xs p q1 q2 e => ?_⟩
  obtain ⟨v, e1, p', us, rfl, b1, _⟩ := h.slots i _ q1
  rw [q2] at e1
  have ep : p = p' := V.ref.inj (Option.some.inj (Option.some.inj e1))
  rw [← ep, e, hD] at b1
  cases b1
theorem wipe_set (σ : L2.St) (j : Nat) (v : V) : L2.wipe ((L2.wipe σ [j]).set j (some v)) [j] = L2.wipe σ [j] := by
  show ((σ.set j none).set j (some v)).set j none = σ.set j none
  rw [List.set_set, List.set_set]
theorem pv_start (J : Nat → List D → List D → Prop) {G1 H1 : Hp} {p1 : List D} {Dl : Addr} (h : HS c G1 σ H1 ds p1) (hD : H1 Dl = none) (g : J 0 [] p1) : PvC c σ ds G1 Dl J 0 (upd H1 Dl (.lst [])) :=
  ⟨G1, p1, [], [], h.newH hD, Ex.refl _, upd_same, .nil, (h.none_of hD).1, g⟩
theorem pv_end {J : Nat → List D → List D → Prop} {G1 : Hp} {Dl : Addr} {n : Nat} {H' : Hp} {Q : VK} (f : DF c σ ds Dl) (p : PvC c σ ds G1 Dl J n H') (hq : ∀ acc pl', J n acc pl' → Φ (.d (.list acc)) pl')
    (q : ∀ v G' H' w pl', HS c G' σ H' ds pl' → Ex G1 G' → VW G' H' c v w → Φ w pl' → Q v H') : Q (.ref Dl) H' := by
  obtain ⟨G', pl', acc, us, h, e1, hD, ra, gD, hJ⟩ := p
  have s2 : Ex G' (upd G' Dl (.lst us)) := Ex.new gD
  refine q (.ref Dl) (upd G' Dl (.lst us)) H' (.d (.list acc)) pl' ⟨fun a o z => ?_, fun a z => ?_, fun a z => ?_, fun a o z => ?_, h.keep, fun p z => ?_, h.pin, h.hid, h.len, fun i w z => ?_, h.own⟩ (e1.trans s2) (R.lst upd_same (ra.up s2)) (hq acc pl' hJ)
  · by_cases y : a = Dl
    · subst y; rw [upd_same] at z; cases z; exact hD
    · rw [upd_ne y] at z; exact h.sub a o z
  · rw [upd_ne (fun y : a = Dl => f.hd (y ▸ z))]; exact h.gh a z
  · rw [upd_ne (fun y : a = Dl => f.pool (y ▸ z))]; exact h.gq a z
  · rw [upd_ne (fun y : a = Dl => by rw [y, f.pin] at z; cases z)]; exact h.gn a o z
  · obtain ⟨c1, c2, vs', c3, c4⟩ := h.pl p z
    exact ⟨c1, c2, vs', c3, c4.up s2⟩
  · obtain ⟨v, d1, d2⟩ := h.slots i w z
    refine ⟨v, d1, ?_⟩
    cases w with
    | d x => exact R.up d2 s2
    | v x => exact d2
    | o ys =>
      obtain ⟨q', us', rfl, k1, k2, k3, k4⟩ := d2
      exact ⟨q', us', rfl, k1, k2.up s2, by rw [upd_ne (f.ne i ys q' z d1)]; exact k3, k4⟩
theorem we_lcL {tl : TE} (J : Nat → List D → List D → Prop) (xs : List D) (hj : ∀ (xs : List D), ds[j]? ≠ some (some (W.o xs))) (h : WE c tl ds pl (isD fun d p1 => d = .list xs ∧ J 0 [] p1))
    (user : ∀ (i : Nat) x acc pl', xs[i]? = some x → J i acc pl' → ∀ pin, WT { c with pin := pin } tt ((wipeD ds [j]).set j (some (.d x))) pl' fun b p2 => if b = true then WE { c with pin := pin } te ((wipeD ds [j]).set j (some (.d x))) p2
      (isD fun y p3 => acc.length < sizeLine ∧ J (i + 1) (acc ++ [y]) p3) else J (i + 1) acc p2)
    (hq : ∀ acc pl', J xs.length acc pl' → Φ (.d (.list acc)) pl') : WE c (tLc (iList K tl) (gName j) tt te [j]) ds pl Φ := fun G σ H h0 Q q => h G σ H h0 _ fun v G1 H1 w p1 h1 e1 f1 g1 => by
  match w, f1, g1 with
  | .d d, f1, ⟨ed, g1⟩ =>
    subst ed
    cases f1 with
    | @lst a vs _ a1 b1 =>
    refine ⟨a, rfl, ⟨vs, SqL.of (h1.sub _ _ a1)⟩, fun Dl hD => ?_⟩
    have f := df_new h1 hD
    refine lc_list (K := K) (a := a) (xs := vs) (PvC c σ ds G1 Dl J) (pv_start J h1 hD g1) ?_ ?_ ?_
    · rintro i H' _ ⟨G', pl', acc, us, h2, e2, _⟩
      exact SqL.of (h2.sub _ _ (e2 _ _ a1))
    · intro i x H' hx p
      obtain ⟨d, hd1, hd2⟩ := b1.get' hx
      exact ⟨wipe_set σ j x, lc_turnD J f hj p (fun G' e => R.up hd2 e) fun acc pl' hJ pin => user i d acc pl' hd1 hJ pin⟩
    · intro H' p
      rw [b1.len] at p
      exact pv_end f p hq fun v G' H' w pl' h2 e2 f2 g2 => q v G' H' w pl' h2 (e1.trans e2) f2 g2
theorem we_lcR {tr : TA} (J : Nat → List D → List D → Prop) (n : Nat) (hj : ∀ (xs : List D), ds[j]? ≠ some (some (W.o xs))) (h : WA c tr ds pl fun ys p1 => ∃ k : Int, ys = [.int k] ∧ k.toNat = n ∧ -(2 ^ 62) ≤ k ∧ k < 2 ^ 62 ∧ J 0 [] p1)
    (user : ∀ (i : Nat) acc pl', i < n → J i acc pl' → ∀ pin, WT { c with pin := pin } tt ((wipeD ds [j]).set j (some (.d (.int i)))) pl' fun b p2 => if b = true then WE { c with pin := pin } te ((wipeD ds [j]).set j (some (.d (.int i)))) p2
      (isD fun y p3 => acc.length < sizeLine ∧ J (i + 1) (acc ++ [y]) p3) else J (i + 1) acc p2)
    (hq : ∀ acc pl', J n acc pl' → Φ (.d (.list acc)) pl') : WE c (tLc (iRng1 tr) (gName j) tt te [j]) ds pl Φ := fun G σ H h0 Q q => h G σ H h0 _ fun vs G1 H1 xs p1 h1 e1 f1 ⟨k, e, en, b1, b2, g1⟩ => by
  subst e en
  cases f1 with
  | cons r1 b =>
    cases b
    cases r1
    refine ⟨k, rfl, b1, b2, fun Dl hD => ?_⟩
    have f := df_new h1 hD
    refine lc_range (lo := 0) (n := k.toNat) (PvC c σ ds G1 Dl J) (pv_start J h1 hD g1) ?_ ?_
    · intro i H' hi p
      have e0 : (0 : Int) + (i : Int) = (i : Int) := Int.zero_add _
      rw [e0]
      exact ⟨wipe_set σ j _, lc_turnD J f hj p (fun G' e => R.int _) fun acc pl' hJ pin => user i acc pl' hi hJ pin⟩
    · intro H' p
      exact pv_end f p hq fun v G' H' w pl' h2 e2 f2 g2 => q v G' H' w pl' h2 (e1.trans e2) f2 g2
end
end

/-! ### defs whole -/
section
variable {P : Program} {w : World} {K : PySem.W.Frag} {mg : Str → Option Value} {base : Heap} {k : Nat} {f : Addr} {fd : FuncData} {ps : List Str}
def slotsD (N : List Str) (ds : List D) : DS := ds.map (fun x => some (W.d x)) ++ List.replicate (N.length - ds.length) none
theorem hs_start {G H : Hp} {vs : List V} {ds : List D} {N : List Str} (s : Ex G H) (r : RA G vs ds) : HS ⟨H, fun a => G a = none ∧ ∃ o, H a = some o, none, fun _ => none⟩ G (L2.start N vs) H (slotsD N ds) [] := by
  refine ⟨s, fun a q => q.1, fun a q => (by cases q), fun a o q => (by cases q), fun a o _ q => q, fun p q => (by cases q), fun a o q => (by cases q), fun a q => q.2, ?_, fun i w q => ?_, fun i j p xs ys q1 => ?_⟩
  · unfold L2.start slotsD
    simp only [List.length_append, List.length_map, List.length_replicate, r.len]
  · unfold slotsD at q
    by_cases hi : i < ds.length
    · rw [List.getElem?_append_left (by rw [List.length_map]; exact hi), List.getElem?_map] at q
      obtain ⟨v, e1, e2⟩ := r.get (i := i) (d := ds[i]) (List.getElem?_eq_getElem hi)
      rw [List.getElem?_eq_getElem hi] at q
      cases q
      refine ⟨v, ?_, e2⟩
      unfold L2.start
      rw [List.getElem?_append_left (by rw [List.length_map, r.len]; exact hi), List.getElem?_map, e1]
      rfl
    · rw [List.getElem?_append_right (by rw [List.length_map]; omega), List.getElem?_replicate] at q
      split at q <;> cases q
  · unfold slotsD at q1
    by_cases hi : i < ds.length
    · rw [List.getElem?_append_left (by rw [List.length_map]; exact hi), List.getElem?_map, List.getElem?_eq_getElem hi] at q1
      cases q1
    · rw [List.getElem?_append_right (by rw [List.length_map]; omega), List.getElem?_replicate] at q1
      split at q1 <;> cases q1
abbrev rtD (k : D → Prop) : W → List D → Prop := fun w _ => match w with
  | .d x => k x
  | _ => False
theorem fgP {F : List D → (D → Prop) → Prop} {x qual : Str} {st : Stmt} {N : List Str} (Fn : Fun K x qual st f fd) (S : FnScope N ps (defScope st)) (len : ∀ ds k, F ds k → ds.length = ps.length)
    (go : ∀ (cdv : Value) (B : Around) (fr : List Env) (s : Shared) (H : Hp) (E : XK), B.guards = some [] → Room k (B.deeper (envOfC qual (defScope st) s.heap.objs.size f cdv)) → ∃ t, PSs (cxOf CX0 P w K mg base N qual (defScope st) f cdv B fr s H E).nox (defBody st) t ∧ ∀ c ds (k : D → Prop), c.pool = none → F ds k → WS c t (slotsD N ds) [] ⟨fun _ _ => k .none, rtD k, fun _ _ => False, fun _ _ => False⟩) : FG P w K mg base (k + 1) f fd ps (spP F) := by
  refine fg_of Fn S (fun vs H Q E h => ?_) fun cdv B fr s H vs Q E hg hr h => ?_
  · obtain ⟨G, ds, _, r, h⟩ := h
    rw [r.len]
    exact len _ _ h
  · obtain ⟨t, der, body⟩ := go cdv B fr s H E hg hr
    refine ⟨t, der, ?_⟩
    obtain ⟨G, ds, s0, r, h⟩ := h
    refine body ⟨H, fun a => G a = none ∧ ∃ o, H a = some o, none, fun _ => none⟩ ds _ rfl h G _ H (hs_start s0 r) _ ⟨?_, ?_, ?_, ?_⟩
    · exact fun G' σ' H' ds' pl' h' e q => q _ G' H' (fun a o z => h'.keep a o (fun y => by cases y) z) h'.sub e (fun a o z1 z2 => h'.gh a ⟨z2, o, z1⟩) R.non
    · intro v G' σ' H' ds' w' pl' h' e q g
      match w', q, g with
      | .d y, q, g => exact g v G' H' (fun a o z => h'.keep a o (fun y => by cases y) z) h'.sub e (fun a o z1 z2 => h'.gh a ⟨z2, o, z1⟩) q
    · exact fun G' σ' H' ds' pl' h' e q => q.elim
    · exact fun G' σ' H' ds' pl' h' e q => q.elim
abbrev rtN (k : List D → Prop) : W → List D → Prop := fun w _ => match w with
  | .o x => k x
  | _ => False
def slotsO (N : List Str) (p : Addr) (ds : List D) : DS := some (.v (.ref p)) :: (ds.map (fun x => some (W.d x)) ++ List.replicate (N.length - (ds.length + 1)) none)
theorem hs_startO {G H : Hp} {p : Addr} {us vs : List V} {pl ds : List D} {N : List Str} (s : Ex G H) (gp : G p = none) (hp : H p = some (.lst us)) (ru : RA G us pl) (r : RA G vs ds) :
    HS ⟨H, fun a => (G a = none ∧ ∃ o, H a = some o) ∧ a ≠ p, some p, fun _ => none⟩ G (L2.start N (.ref p :: vs)) H (slotsO N p ds) pl := by
  refine ⟨s, fun a q => q.1.1, fun a q => (by cases q; exact gp), fun a o q => (by cases q), fun a o _ q => q, fun q z => ?_, fun a o q => (by cases q), fun a q => q.1.2, ?_, fun i w q => ?_, fun i j p xs ys q1 => ?_⟩
  · cases z
    exact ⟨fun y => y.2 rfl, rfl, us, hp, ru⟩
  · unfold L2.start slotsO
    simp only [List.length_append, List.length_map, List.length_replicate, List.length_cons, r.len]
    omega
  · unfold slotsO at q
    cases i with
    | zero =>
      cases q
      exact ⟨_, rfl, rfl⟩
    | succ i =>
      rw [List.getElem?_cons_succ] at q
      by_cases hi : i < ds.length
      · rw [List.getElem?_append_left (by rw [List.length_map]; exact hi), List.getElem?_map] at q
        obtain ⟨v, e1, e2⟩ := r.get (i := i) (d := ds[i]) (List.getElem?_eq_getElem hi)
        rw [List.getElem?_eq_getElem hi] at q
        cases q
        refine ⟨v, ?_, e2⟩
        unfold L2.start
        rw [List.map_cons, List.cons_append, List.getElem?_cons_succ, List.getElem?_append_left (by rw [List.length_map, r.len]; exact hi), List.getElem?_map, e1]
        rfl
      · rw [List.getElem?_append_right (by rw [List.length_map]; omega), List.getElem?_replicate] at q
        split at q <;> cases q
  · unfold slotsO at q1
    cases i with
    | zero => cases q1
    | succ i =>
      rw [List.getElem?_cons_succ] at q1
      by_cases hi : i < ds.length
      · rw [List.getElem?_append_left (by rw [List.length_map]; exact hi), List.getElem?_map, List.getElem?_eq_getElem hi] at q1
        cases q1
      · rw [List.getElem?_append_right (by rw [List.length_map]; omega), List.getElem?_replicate] at q1
        split at q1 <;> cases q1
abbrev rtO (k : D → List D → Prop) : W → List D → Prop := fun w pl => match w with
  | .d x => k x pl
  | _ => False
theorem fgO {F : List D → List D → (D → List D → Prop) → Prop} {x qual : Str} {st : Stmt} {N : List Str} (Fn : Fun K x qual st f fd) (S : FnScope N ps (defScope st)) (len : ∀ pl ds k, F pl ds k → ds.length + 1 = ps.length)
    (go : ∀ (cdv : Value) (B : Around) (fr : List Env) (s : Shared) (H : Hp) (E : XK), B.guards = some [] → Room k (B.deeper (envOfC qual (defScope st) s.heap.objs.size f cdv)) → ∃ t, PSs (cxOf CX0 P w K mg base N qual (defScope st) f cdv B fr s H E).nox (defBody st) t ∧ ∀ c p pl ds (k : D → List D → Prop), c.pool = some p → F pl ds k → WS c t (slotsO N p ds) pl ⟨fun _ pl' => k .none pl', rtO k, fun _ _ => False, fun _ _ => False⟩) : FG P w K mg base (k + 1) f fd ps (spO F) := by
  refine fg_of Fn S (fun vs H Q E h => ?_) fun cdv B fr s H vs Q E hg hr h => ?_
  · obtain ⟨G, p, vs', us, pl, ds, rfl, _, _, _, _, r, h⟩ := h
    rw [List.length_cons, r.len]
    exact len _ _ _ h
  · obtain ⟨t, der, body⟩ := go cdv B fr s H E hg hr
    refine ⟨t, der, ?_⟩
    obtain ⟨G, p, vs', us, pl, ds, rfl, s0, gp, hp, ru, r, h⟩ := h
    have fin : ∀ {G' σ' H' ds' pl'}, HS ⟨H, fun a => (G a = none ∧ ∃ o, H a = some o) ∧ a ≠ p, some p, fun _ => none⟩ G' σ' H' ds' pl' → ∃ us', (∀ a o, a ≠ p → H a = some o → H' a = some o) ∧ Ex G' H' ∧ (∀ a o, H a = some o → G a = none → G' a = none) ∧ H' p = some (.lst us') ∧ RA G' us' pl' := by
      intro G' σ' H' ds' pl' h'
      obtain ⟨_, _, us', b1, b2⟩ := h'.pl p rfl
      refine ⟨us', fun a o z z2 => h'.keep a o (fun y => z (Option.some.inj y).symm) z2, h'.sub, fun a o z1 z2 => ?_, b1, b2⟩
      by_cases e : a = p
      · rw [e]; exact h'.gq p rfl
      · exact h'.gh a ⟨⟨z2, o, z1⟩, e⟩
    refine body ⟨H, fun a => (G a = none ∧ ∃ o, H a = some o) ∧ a ≠ p, some p, fun _ => none⟩ p pl ds _ rfl h G _ H (hs_startO s0 gp hp ru r) _ ⟨?_, ?_, ?_, ?_⟩
    · intro G' σ' H' ds' pl' h' e q
      obtain ⟨us', a1, a2, a3, a4, a5⟩ := fin h'
      exact q _ G' H' us' a1 a2 e a3 a4 a5 R.non
    · intro v G' σ' H' ds' w' pl' h' e q g
      obtain ⟨us', a1, a2, a3, a4, a5⟩ := fin h'
      match w', q, g with
      | .d y, q, g => exact g v G' H' us' a1 a2 e a3 a4 a5 q
    · exact fun G' σ' H' ds' pl' h' e q => q.elim
    · exact fun G' σ' H' ds' pl' h' e q => q.elim
end
end PD

/-! PD5: enumerate over a tuple; calls with keywords; more operations -/
namespace PD
open PySem PySem.Spec PyProof.Rows L2 Evl
open AutoSeq1 (wpAny_loadPart')

theorem meets_enum_tup (l : Addr) (o : Obj) (items : Array Value) :
    Meets (Builtin.«enumerate.__new__» ⟨[.type "enumerate", .ref l], []⟩) (fun _ Rr s => (s.heap.get? l = some o ∧ o.cls = .type "tuple" ∧ s.heap.IsTuple l items) ∧
      Rr (.ok (.ret (.ref (s.heap.push { cls := .type "tuple_iterator", data := .fields #[.ref l, .int 0 0] }).objs.size)))
        { s with heap := (s.heap.push { cls := .type "tuple_iterator", data := .fields #[.ref l, .int 0 0] }).push { cls := .type "enumerate", data := .fields #[.none, .bool false, .ref s.heap.objs.size, rawInt 0, .none, .none] } }) := by
  refine .of_wp ?_
  intro prog w A Rr s h
  obtain ⟨hp, g, d, tk, os⟩ := s
  obtain ⟨⟨hl, hc, hL⟩, h⟩ := h
  have hsub := PySem.sub_enumerate
  have hL2 : Heap.IsTuple (Shared.heap ⟨hp, g, d, tk, os⟩) l items := hL
  wp_walk using wpAny_loadPart' hl
  refine wpAny_stack_any fun st => wpAny_pure ?_
  split
  next c _ _ _ _ _ =>
    cases (c == Value.type "enumerate") <;> (wp_walk using wpAny_loadPart' hl, wpAny_pyIter_tuple hL2; exact ⟨_, rfl, h⟩)
  next => wp_walk using wpAny_loadPart' hl, wpAny_pyIter_tuple hL2; exact ⟨_, rfl, h⟩
section
variable {prog : Program} {w : World} {A : Around} {E : Value → Shared → Prop} {s : Shared}
theorem call_enum_tup {l : Addr} {items : Array Value} {Q : Value → Shared → Prop} (hL : s.heap.IsTuple l items)
    (h : ∀ h', IsEnum h' (s.heap.objs.size + 1) s.heap.objs.size 0 .none → h'.IsTupleIter s.heap.objs.size l 0 → (∀ b o, s.heap.get? b = some o → h'.get? b = some o) → Q (.ref (s.heap.objs.size + 1)) { s with heap := h' }) :
    wpAny (model prog w) A (call (.type "enumerate") [.ref l]) Q E s := by
  obtain ⟨o, hl, hc, hd⟩ := id hL
  refine callType_new F.called_enumerate (by decide) (F.typeCall_enumerate_1 _) (F.newCall_enumerate_1 _) (fun obj => F.args_object_init_2 obj _) F.entry_enumerate_new (meets_enum_tup l o items) ?_
  refine ⟨⟨hl, hc, hL⟩, ?_⟩
  have hz := Heap.size_push s.heap { cls := .type "tuple_iterator", data := .fields #[.ref l, .int 0 0] }
  have new := Heap.get?_push_size (s.heap.push { cls := .type "tuple_iterator", data := .fields #[.ref l, .int 0 0] }) (o := { cls := .type "enumerate", data := .fields #[.none, .bool false, .ref s.heap.objs.size, rawInt 0, .none, .none] }) rfl
  rw [hz] at new ⊢
  refine ⟨⟨_, new, rfl⟩, h _ new ⟨_, Heap.get?_push_of_some _ (Heap.get?_push_size _ rfl), rfl, rfl⟩ ?_⟩
  intro b ob x
  exact Heap.get?_push_of_some _ (Heap.get?_push_of_some _ x)
end
def IteT (K : PySem.W.Frag) (a : Addr) : It where
  go := fun i H => ∃ (xs : List V) (x : V), SqT K H a xs ∧ xs[i]? = some x
  yld := fun i H v H' => ∃ T x, v = .ref T ∧ H T = none ∧ H' = upd H T (.tup [.int (i : Nat), x]) ∧ ∀ xs, SqT K H a xs → xs[i]? = some x
  stop := fun i H => ∃ xs : List V, SqT K H a xs ∧ xs.length = i
theorem turn_enumT {P : Program} {w : World} {K : PySem.W.Frag} {elts : List Expr} {kk : Nat} {tpos : Pos} (a e it : Addr) (hai : a ≠ it) (hea : e ≠ a) :
    Turn P w K (.Tuple elts kk tpos) (IteT K a) [e, it] e (fun i h => (∃ old, IsEnum h e it ((i : Nat) : Int) old) ∧ h.IsTupleIter it a i ∧ e ≠ it) := by
  have two : ∀ b, b ∈ [e, it] → b = e ∨ b = it := fun b hb => by simpa using hb
  constructor
  case mem => simp
  case obj =>
    rintro i h ⟨⟨old, he⟩, ⟨o, ho, hc, hd⟩, _⟩ b hb
    rcases two b hb with z | z <;> subst z
    · exact ⟨_, he, fun v q => nomatch q⟩
    · exact ⟨o, ho, fun v q => by rw [hd] at q; cases q⟩
  case keep =>
    rintro i h h' ⟨⟨old, he⟩, hi, hne⟩ k
    exact ⟨⟨old, k e (by simp) _ he⟩, hi.at fun o q => k it (by simp) o q, hne⟩
  case item =>
    intro X hP hw hK hc i pins s σ H E I hf st hg
    subst hP hw hK
    obtain ⟨⟨old, he⟩, hit, hne⟩ := st
    obtain ⟨xs, x, hq, hx⟩ := hg
    obtain ⟨its, rv, p, hz⟩ := I.tuple hq
    obtain ⟨u, hu, ru⟩ := rv.get hx
    have hel : e < s.heap.objs.size := Heap.lt_size he
    have hil : it < s.heap.objs.size := by
      obtain ⟨_, q, _⟩ := hit
      exact Heap.lt_size q
    have Dr := Draws.tuple (prog := X.prog) (w := X.w) (A := X.A.in1) (I.ok.hd hc) it a hai its.toArray
    have lt : i < its.toArray.size := by
      have := (List.getElem?_eq_some_iff.mp hu).1
      simpa using this
    refine wpAny_pyNext_enum_itemD Dr he ⟨hit, p⟩ lt hne (by simp [hne, hea]) ?_
    intro y h' tk hy ho hst hT hsz hk
    have ey : y = u := by
      have hy' : its.toArray[i]? = some y := hy
      have hu' : its.toArray[i]? = some u := by simpa using hu
      rw [hu'] at hy'
      exact (Option.some.inj hy').symm
    subst ey
    refine ⟨_, rfl, wpAny_letOwnedTupleGo_enum (s := { s with heap := h', toks := tk + 1 }) ho fun h'' he' sb => ?_⟩
    have hT2 := (sb.2 _ (Nat.ne_of_gt hel)).trans hT
    have new : ObjOk X.prog X.w (upd H s.heap.objs.size (.tup [.int (i : Nat), x])) h'' s.heap.objs.size (.tup [.int (i : Nat), x]) :=
      ⟨by show 2 ≤ sizeLine; decide, [.int i tk, y], .cons ⟨_, rfl⟩ (.cons ru .nil), ⟨_, hT2, rfl, _, rfl⟩⟩
    have I1 : Inv X pins σ (upd H s.heap.objs.size (.tup [.int (i : Nat), x])) { s with heap := h'', toks := tk + 1 } := by
      refine I.turnedNew (ch := [e, it]) (fun b ob hb q => ?_) hf (Nat.le_refl _) new
      exact (sb.2 b (fun z => hb (by simp [z]))).trans (hk b ob (fun z => hb (by simp [z])) (fun z => hb (by simp [z])) q)
    refine ⟨.ref s.heap.objs.size, _, I1, rfl, ⟨_, x, rfl, I.hok.fresh (Nat.le_refl _), rfl, ?_⟩, ⟨⟨y, ?_⟩, hst.1.at fun o q => (sb.2 it (Ne.symm hne)).trans q, hne⟩, ?_⟩
    · intro ys hy2
      rw [I.tuple_inj hy2 hq]
      exact hx
    · rw [show ((i + 1 : Nat) : Int) = (i : Int) + 1 by omega]
      exact he'
    · intro b hb
      have hb' : b < s.heap.objs.size := by
        rcases two b hb with z | z <;> (rw [z]; assumption)
      rw [upd_ne (Nat.ne_of_lt hb')]
      exact (hf b hb).1
  case done =>
    intro X hP hw hK hc i pins s σ H E I hf st hg
    subst hP hw hK
    obtain ⟨⟨old, he⟩, hit, hne⟩ := st
    obtain ⟨xs, hq, hx⟩ := hg
    obtain ⟨its, rv, p, hz⟩ := I.tuple hq
    obtain ⟨f0, f1, f2, f3, f4, f5⟩ := hf it (by simp)
    have fin : ∀ h', Heap.ExtBut it s.heap h' → Inv X pins σ H { s with heap := h' } := fun h' eb => I.turned (t' := s.toks) (fun b o hb q => eb b o hb q) f0 f1 f3 f4 f5
    have Dr := Draws.tuple (prog := X.prog) (w := X.w) (A := X.A.in1) (I.ok.hd hc) it a hai its.toArray
    have ei : i = its.toArray.size := by
      have := rv.length
      simp
      omega
    rw [ei] at hit
    exact wpAny_pyNext_enum_endD Dr he ⟨hit, p⟩ fun h' eb => ⟨rfl, fin h' eb⟩
  case self => exact fun A i s Q E st h => let ⟨⟨_, he⟩, _⟩ := st; wpAny_pyIter_enum he h
def iEnumT (K : PySem.W.Frag) (ta : TA) : TI := fun σ H Rr => ta σ H fun vs H1 => ∃ a xs, vs = [.ref a] ∧ SqT K H1 a xs ∧ Rr (IteT K a) H1
theorem pi_enumT {X : Cx} {e : Expr} {ta : TA} {p pos tpos : Pos} {elts : List Expr} {kk : Nat} (hg : Gl X "enumerate") (hm : X.mg "enumerate" = none) (ha : PA X [e] ta) (hs : starEach [e] X.env = [(false, eval e X.env)] := by rfl) :
    PI X (.Tuple elts kk tpos) (.Call (.Name "enumerate" p) [e] [] pos) (iEnumT X.K ta) := by
  constructor
  intro pins s σ H Rr I h
  refine Call_ (ld_blt I hg hm boot_enumerate (PyProof.Rows.callWith_type1 (thn (ha.run pos pins s σ H _ I h) ?_) hs rfl))
  rintro us s1 ⟨vs, H1, I1, r1, a, xs, ex, hq, q⟩
  subst ex
  obtain ⟨u, eu, ru⟩ := vals1 r1
  subst eu
  have eu2 : u = .ref a := ru
  subst eu2
  obtain ⟨its, rv, pt, hz⟩ := I1.tuple hq
  have hlt : a < s1.heap.objs.size := by
    obtain ⟨o, ho, _⟩ := pt
    exact Heap.lt_size ho
  refine call_enum_tup pt fun h' he hit hk => wpAny_pyIter_enum he ?_
  have I2 : Inv X pins σ H1 { s1 with heap := h' } := I1.kept (t' := s1.toks) hk
  refine ⟨s1.heap.objs.size + 1, [s1.heap.objs.size + 1, s1.heap.objs.size], _, _, H1, rfl, I2, turn_enumT a (s1.heap.objs.size + 1) s1.heap.objs.size (Nat.ne_of_lt hlt) (Nat.ne_of_gt (Nat.lt_succ_of_lt hlt)), ⟨⟨.none, he⟩, hit, Nat.succ_ne_self _⟩, ?_, q⟩
  intro b hb
  have hle : s1.heap.objs.size ≤ b := by
    rcases (show b = s1.heap.objs.size + 1 ∨ b = s1.heap.objs.size by simpa using hb) with z | z
    · rw [z]; exact Nat.le_succ _
    · rw [z]; exact Nat.le_refl _
  exact I1.fpOk hle (I1.hok.fresh hle)
section
variable {c : Cn} {K : PySem.W.Frag} {ds : DS} {pl : List D} {tr : TA} {t : TS} {E : EE}
theorem ws_forET {j1 j2 : Nat} (I : Nat → DS → List D → Prop) (xs : List D) (h : WA c tr ds pl fun ys p1 => ys = [.tuple xs] ∧ I 0 ds p1)
    (hs : ∀ (i : Nat) x ds' pl', xs[i]? = some x → I i ds' pl' → WS c t ((ds'.set j1 (some (.d (.int i)))).set j2 (some (.d x))) pl' { nx := I (i + 1), ct := I (i + 1), bk := E.nx, rt := E.rt }) (hd : ∀ ds' pl', I xs.length ds' pl' → E.nx ds' pl') :
    WS c (tFor (iEnumT K tr) (gTup K 2 (gCons (gName j1) (gCons (gName j2) gNil))) t) ds pl E := fun G σ H h0 D' f => h G σ H h0 _ fun vs G1 H1 ys p1 h1 e1 f1 ⟨ey, g1⟩ => by
  subst ey
  obtain ⟨v, rfl, r⟩ := ra1 f1
  cases r with
  | @tup a us _ a1 b1 =>
  refine ⟨a, us, rfl, SqT.of (h1.sub _ _ a1), fun i m σ' H' => m = us.length - i ∧ i ≤ us.length ∧ ∃ G' ds' pl', HS c G' σ' H' ds' pl' ∧ Ex G1 G' ∧ I i ds' pl', ⟨us.length, by simp, Nat.zero_le _, G1, ds, p1, h1, Ex.refl _, g1⟩, ?_⟩
  rintro i m σ' H' ⟨rfl, hi, G', ds', pl', h2, e2, g2⟩
  have sq : SqT K H' a us := SqT.of (h2.sub _ _ (e2 _ _ a1))
  by_cases hlt : i < us.length
  · refine .inr ⟨⟨us, us[i], sq, by simp [hlt]⟩, fun σ3 H3 => ∃ G3 ds3 pl3, HS c G3 σ3 H3 ds3 pl3 ∧ Ex G1 G3 ∧ I (i + 1) ds3 pl3, fun σ3 H3 q => ⟨us.length - (i + 1), by omega, rfl, hlt, q⟩, ?_⟩
    rintro x H3 ⟨T, y, rfl, hT, rfl, hy⟩
    have hy2 := hy us sq
    obtain ⟨d, hd1, hd2⟩ := b1.get' hy2
    refine ⟨T, _, rfl, SqT.of upd_same, rfl, _, _, rfl, _, _, rfl, rfl, ?_⟩
    have n := h2.none_of hT
    have e3 : Ex G' (upd G' T (.tup [.int (i : Nat), y])) := Ex.new n.1
    have hN := ((h2.newD (o := .tup [.int (i : Nat), y]) hT).set (i := j1) (w := .d (.int i)) (R.int _) fun xs z => by cases z).set (i := j2) (w := .d d) (R.up hd2 (e2.trans e3)) fun xs z => by cases z
    refine hs i d ds' pl' hd1 g2 _ _ _ hN _ ⟨?_, ?_, ?_, ?_⟩
    · exact fun G4 σ4 H4 ds4 pl4 h4 e4 g4 => ⟨G4, ds4, pl4, h4, (e2.trans e3).trans e4, g4⟩
    · exact fun v G4 σ4 H4 ds4 w4 pl4 h4 e4 q4 g4 => f.rt v G4 σ4 H4 ds4 w4 pl4 h4 (e1.trans ((e2.trans e3).trans e4)) q4 g4
    · exact fun G4 σ4 H4 ds4 pl4 h4 e4 g4 => f.nx G4 σ4 H4 ds4 pl4 h4 (e1.trans ((e2.trans e3).trans e4)) g4
    · exact fun G4 σ4 H4 ds4 pl4 h4 e4 g4 => ⟨G4, ds4, pl4, h4, (e2.trans e3).trans e4, g4⟩
  · have ei : i = us.length := by omega
    subst ei
    rw [b1.len] at g2
    exact .inl ⟨⟨us, sq, rfl⟩, f.nx G' σ' H' ds' pl' h2 (e1.trans e2) (hd _ _ g2)⟩
theorem ws_forEL {j1 j2 : Nat} (I : Nat → DS → List D → Prop) (xs : List D) (h : WA c tr ds pl fun ys p1 => ys = [.list xs] ∧ I 0 ds p1)
    (hs : ∀ (i : Nat) x ds' pl', xs[i]? = some x → I i ds' pl' → WS c t ((ds'.set j1 (some (.d (.int i)))).set j2 (some (.d x))) pl' { nx := I (i + 1), ct := I (i + 1), bk := E.nx, rt := E.rt }) (hd : ∀ ds' pl', I xs.length ds' pl' → E.nx ds' pl') :
    WS c (tFor (iEnum K tr) (gTup K 2 (gCons (gName j1) (gCons (gName j2) gNil))) t) ds pl E := fun G σ H h0 D' f => h G σ H h0 _ fun vs G1 H1 ys p1 h1 e1 f1 ⟨ey, g1⟩ => by
  subst ey
  obtain ⟨v, rfl, r⟩ := ra1 f1
  cases r with
  | @lst a us _ a1 b1 =>
  refine ⟨a, us, rfl, SqL.of (h1.sub _ _ a1), fun i m σ' H' => m = us.length - i ∧ i ≤ us.length ∧ ∃ G' ds' pl', HS c G' σ' H' ds' pl' ∧ Ex G1 G' ∧ I i ds' pl', ⟨us.length, by simp, Nat.zero_le _, G1, ds, p1, h1, Ex.refl _, g1⟩, ?_⟩
  rintro i m σ' H' ⟨rfl, hi, G', ds', pl', h2, e2, g2⟩
  have sq : SqL K H' a us := SqL.of (h2.sub _ _ (e2 _ _ a1))
  by_cases hlt : i < us.length
  · refine .inr ⟨⟨us, us[i], sq, by simp [hlt]⟩, fun σ3 H3 => ∃ G3 ds3 pl3, HS c G3 σ3 H3 ds3 pl3 ∧ Ex G1 G3 ∧ I (i + 1) ds3 pl3, fun σ3 H3 q => ⟨us.length - (i + 1), by omega, rfl, hlt, q⟩, ?_⟩
    rintro x H3 ⟨T, y, rfl, hT, rfl, hy⟩
    have hy2 := hy us sq
    obtain ⟨d, hd1, hd2⟩ := b1.get' hy2
    refine ⟨T, _, rfl, SqT.of upd_same, rfl, _, _, rfl, _, _, rfl, rfl, ?_⟩
    have n := h2.none_of hT
    have e3 : Ex G' (upd G' T (.tup [.int (i : Nat), y])) := Ex.new n.1
    have hN := ((h2.newD (o := .tup [.int (i : Nat), y]) hT).set (i := j1) (w := .d (.int i)) (R.int _) fun xs z => by cases z).set (i := j2) (w := .d d) (R.up hd2 (e2.trans e3)) fun xs z => by cases z
    refine hs i d ds' pl' hd1 g2 _ _ _ hN _ ⟨?_, ?_, ?_, ?_⟩
    · exact fun G4 σ4 H4 ds4 pl4 h4 e4 g4 => ⟨G4, ds4, pl4, h4, (e2.trans e3).trans e4, g4⟩
    · exact fun v G4 σ4 H4 ds4 w4 pl4 h4 e4 q4 g4 => f.rt v G4 σ4 H4 ds4 w4 pl4 h4 (e1.trans ((e2.trans e3).trans e4)) q4 g4
    · exact fun G4 σ4 H4 ds4 pl4 h4 e4 g4 => f.nx G4 σ4 H4 ds4 pl4 h4 (e1.trans ((e2.trans e3).trans e4)) g4
    · exact fun G4 σ4 H4 ds4 pl4 h4 e4 g4 => ⟨G4, ds4, pl4, h4, (e2.trans e3).trans e4, g4⟩
  · have ei : i = us.length := by omega
    subst ei
    rw [b1.len] at g2
    exact .inl ⟨⟨us, sq, Nat.le_refl _⟩, f.nx G' σ' H' ds' pl' h2 (e1.trans e2) (hd _ _ g2)⟩
end
end PD

/-! PD6: defs by name; operators of several kinds -/
namespace PD
open PySem PySem.Spec PyProof.Rows L2 Evl

def Here (K : PySem.W.Frag) (mg : Str → Option Value) (name : Str) (st : Stmt) (ps : List Str) (f : Addr) (fd : FuncData) : Prop := Fun K name name st f fd ∧ mg name = some (.ref f) ∧ Binds K fd ps []
def At0 (K : PySem.W.Frag) (f : Addr) (fd : FuncData) : Prop := ∃ (oc : Value) (od : Option Addr) (osl : Array (Option Value)), K.lookup f = some ⟨oc, od, .func fd, osl⟩
def Df (P : Program) (w : World) (K : PySem.W.Frag) (mg : Str → Option Value) (base : Heap) (k : Nat) (name : Str) (ps : List Str) (sp : Sp) : Prop :=
  ∃ f fd, FG P w K mg base k f fd ps sp ∧ mg name = some (.ref f) ∧ PySem.W.keepIn K (.ref f) = true ∧ Binds K fd ps [] ∧ At0 K f fd
section
variable {P : Program} {w : World} {K : PySem.W.Frag} {mg : Str → Option Value} {base : Heap} {k : Nat} {name : Str} {ps : List Str} {sp : Sp} {f : Addr} {fd : FuncData} {st : Stmt}
theorem Here.df (h : Here K mg name st ps f fd) (g : FG P w K mg base k f fd ps sp) : Df P w K mg base k name ps sp := ⟨f, fd, g, h.2.1, h.1.kp, h.2.2, by
  obtain ⟨oc, od, kV, doc, pm, an, cdv, ct, osl, rfl, lk, _⟩ := h.1.ex
  exact ⟨oc, od, osl, lk⟩⟩
end
section
variable {X : Cx} {k : Nat} {ps : List Str} {sp : Sp} {E : XK} {x : Str} {p pos : Pos} {e : Expr} {es : List Expr} {t : TA}
theorem pe_callD (F : Df X.prog X.w X.K X.mg X.base k x ps sp) (hG : X.A.guards = some []) (hr : Room k X.A) (hg : Gl X x) (ha : PA X (e :: es) t)
    (hdb : (x == ("__debug__" : Str)) = false := by decide) (he : starEach (e :: es) X.env = (false, eval e X.env) :: starEach es X.env := by rfl)
    (hpl : (backTo pos (starEach es X.env)).any (·.1) = false := by rfl) : PE X (.Call (.Name x p) (e :: es) [] pos) (tCall sp [] E0 t) := by
  obtain ⟨f, fd, G, m, kp, b, _⟩ := F
  exact pe_callG hG G hr hg m kp b ha hdb he hpl
end

/-! ### + of ints, of lists; * of ints, of a list and an int -/
def rAddU : R2 := fun x y H Q => rI0 (fun i j => .int (i + j)) x y H Q ∨ rCat x y H Q
def rMulU : R2 := fun x y H Q => rI CMulW (fun i j => .int (i * j)) x y H Q ∨ rRep x y H Q
def rEqU (K : PySem.W.Frag) : R2 := fun x y H Q => rEqD K x y H Q ∨ rEq x y H Q
def rNeU (K : PySem.W.Frag) : R2 := fun x y H Q => rNeD K x y H Q ∨ rNe x y H Q
section
variable {X : Cx}
theorem op_eqU (hu : X.A.units + 64 < cLine) : OpR X (compareOp .Eq) (rEqU X.K) := (op_eqD hu).or op_eq
theorem op_neU (hu : X.A.units + 64 < cLine) : OpR X (compareOp .NotEq) (rNeU X.K) := (op_neD hu).or op_ne
theorem op_addU : OpR X (binaryOp .Add) rAddU := op_add.or op_cat
theorem op_mulU : OpR X (binaryOp .Mult) rMulU := op_mulW.or op_rep
end
section
variable {c : Cn} {K : PySem.W.Frag} {ds : DS} {pl : List D} {Φ : W → List D → Prop} {ta tb te : TE} {tr : TA}
theorem os_addI {i j : Int} {p2 : List D} (h : Φ (.d (.int (i + j))) p2) : OpS c rAddU ds (.int i) (.int j) p2 Φ := fun G σ H v u hs hv hu Q q => .inl (os_I0 (g := fun i j => .int (i + j)) rfl h G σ H v u hs hv hu Q q)
theorem os_addL {xs ys : List D} {p2 : List D} (hl : xs.length + ys.length ≤ sizeLine) (h : Φ (.d (.list (xs ++ ys))) p2) : OpS c rAddU ds (.list xs) (.list ys) p2 Φ := fun G σ H v u hs hv hu Q q => .inr (os_cat hl h G σ H v u hs hv hu Q q)
theorem os_mulI {i j : Int} {p2 : List D} (hc : CMulW i j) (h : Φ (.d (.int (i * j))) p2) : OpS c rMulU ds (.int i) (.int j) p2 Φ := fun G σ H v u hs hv hu Q q => .inl (os_I (g := fun i j => .int (i * j)) hc rfl h G σ H v u hs hv hu Q q)
def repD (xs : List D) (k : Nat) : List D := (List.replicate k xs).flatten
theorem os_sub {i j : Int} {p2 : List D} (h : Φ (.d (.int (i - j))) p2) : OpS c (rI0 fun i j => .int (i - j)) ds (.int i) (.int j) p2 Φ := os_I0 (g := fun i j => .int (i - j)) rfl h
theorem os_mod {i j : Int} {p2 : List D} (hc : 0 < j) (h : Φ (.d (.int (i % j))) p2) : OpS c (rI (fun _ j => 0 < j) fun i j => .int (i % j)) ds (.int i) (.int j) p2 Φ := os_I (C := fun _ j => 0 < j) (g := fun i j => .int (i % j)) hc rfl h
theorem os_fdiv {i j : Int} {p2 : List D} (hc : CDivW i j) (h : Φ (.d (.int (i / j))) p2) : OpS c (rI CDivW fun i j => .int (i / j)) ds (.int i) (.int j) p2 Φ := os_I (g := fun i j => .int (i / j)) hc rfl h
theorem os_pow {i j : Int} {p2 : List D} (hc : CPowW i j) (h : Φ (.d (.int (i ^ j.toNat))) p2) : OpS c (rI CPowW fun i j => .int (i ^ j.toNat)) ds (.int i) (.int j) p2 Φ := os_I (g := fun i j => .int (i ^ j.toNat)) hc rfl h
theorem os_lt {i j : Int} {p2 : List D} (h : Φ (.d (.bool (decide (i < j)))) p2) : OpS c (rI0 fun i j => .bl (decide (i < j))) ds (.int i) (.int j) p2 Φ := os_I0 (g := fun i j => .bl (decide (i < j))) rfl h
theorem os_le {i j : Int} {p2 : List D} (h : Φ (.d (.bool (decide (i ≤ j)))) p2) : OpS c (rI0 fun i j => .bl (decide (i ≤ j))) ds (.int i) (.int j) p2 Φ := os_I0 (g := fun i j => .bl (decide (i ≤ j))) rfl h
theorem os_gt {i j : Int} {p2 : List D} (h : Φ (.d (.bool (decide (j < i)))) p2) : OpS c (rI0 fun i j => .bl (decide (j < i))) ds (.int i) (.int j) p2 Φ := os_I0 (g := fun i j => .bl (decide (j < i))) rfl h
theorem os_ge {i j : Int} {p2 : List D} (h : Φ (.d (.bool (decide (j ≤ i)))) p2) : OpS c (rI0 fun i j => .bl (decide (j ≤ i))) ds (.int i) (.int j) p2 Φ := os_I0 (g := fun i j => .bl (decide (j ≤ i))) rfl h
theorem os_eqUD {x y : D} {p2 : List D} (h1 : SeqAt.shaped x = true) (h2 : SeqAt.shaped y = true) (h : Φ (.d (.bool (PyData.eqv x y))) p2) : OpS c (rEqU K) ds x y p2 Φ := fun G σ H v u hs hv hu Q q => .inl (os_eqD h1 h2 h G σ H v u hs hv hu Q q)
theorem os_neUD {x y : D} {p2 : List D} (h1 : SeqAt.shaped x = true) (h2 : SeqAt.shaped y = true) (h : Φ (.d (.bool (!PyData.eqv x y))) p2) : OpS c (rNeU K) ds x y p2 Φ := fun G σ H v u hs hv hu Q q => .inl (os_neD h1 h2 h G σ H v u hs hv hu Q q)
theorem os_eqI {i j : Int} {p2 : List D} (h : Φ (.d (.bool (decide (i = j)))) p2) : OpS c (rEqU K) ds (.int i) (.int j) p2 Φ := fun G σ H v u hs hv hu Q q => .inr (by
  rw [hv.int, hu.int]
  refine ⟨rfl, ?_⟩
  have e : decide (V.int i = V.int j) = decide (i = j) := by rw [decide_eq_decide]; exact ⟨fun z => V.int.inj z, fun z => by rw [z]⟩
  rw [e]
  exact q _ G H (.d _) p2 hs (Ex.refl _) (R.bl _) h)
theorem os_neI {i j : Int} {p2 : List D} (h : Φ (.d (.bool (!decide (i = j)))) p2) : OpS c (rNeU K) ds (.int i) (.int j) p2 Φ := fun G σ H v u hs hv hu Q q => .inr (by
  rw [hv.int, hu.int]
  refine ⟨rfl, ?_⟩
  have e : decide (V.int i = V.int j) = decide (i = j) := by rw [decide_eq_decide]; exact ⟨fun z => V.int.inj z, fun z => by rw [z]⟩
  rw [e]
  exact q _ G H (.d _) p2 hs (Ex.refl _) (R.bl _) h)
theorem os_eqT {i j : Str} {p2 : List D} (h : Φ (.d (.bool (decide (i = j)))) p2) : OpS c (rEqU K) ds (.str i) (.str j) p2 Φ := fun G σ H v u hs hv hu Q q => .inr (by
  rw [hv.str, hu.str]
  refine ⟨rfl, ?_⟩
  have e : decide (V.str i = V.str j) = decide (i = j) := by rw [decide_eq_decide]; exact ⟨fun z => V.str.inj z, fun z => by rw [z]⟩
  rw [e]
  exact q _ G H (.d _) p2 hs (Ex.refl _) (R.bl _) h)
theorem os_neT {i j : Str} {p2 : List D} (h : Φ (.d (.bool (!decide (i = j)))) p2) : OpS c (rNeU K) ds (.str i) (.str j) p2 Φ := fun G σ H v u hs hv hu Q q => .inr (by
  rw [hv.str, hu.str]
  refine ⟨rfl, ?_⟩
  have e : decide (V.str i = V.str j) = decide (i = j) := by rw [decide_eq_decide]; exact ⟨fun z => V.str.inj z, fun z => by rw [z]⟩
  rw [e]
  exact q _ G H (.d _) p2 hs (Ex.refl _) (R.bl _) h)
theorem we_lenO {i : Nat} {xs : List D} (hi : ds[i]? = some (some (.o xs))) (h : Φ (.d (.int xs.length)) pl) : WE c (tCB (rLenQ K) (tCons (tVar i) tNil)) ds pl Φ := fun G σ H hs Q q => by
  obtain ⟨v, e1, p, vs, rfl, b1, b2, _⟩ := hs.slots i _ hi
  refine ⟨_, e1, p, vs, rfl, .inl (SqL.of b1), ?_⟩
  rw [b2.len]
  exact q _ G H (.d _) pl hs (Ex.refl _) (R.int _) h
mutual
theorem eqv_refl : ∀ d : D, d.canLay0 = true → PyData.eqv d d = true
  | .none, _ => rfl
  | .bool b, _ => by show (b == b) = true; simp
  | .int i, _ => by show (i == i) = true; simp
  | .str x, _ => by show (x == x) = true; simp
  | .list xs, h => eqvA_refl xs (by simpa only [PyData.canLay0] using h)
  | .tuple xs, h => eqvA_refl xs (by simpa only [PyData.canLay0] using h)
  | .dict _, h => by simp [PyData.canLay0] at h
theorem eqvA_refl : ∀ ds : List D, PyData.canLayAll0 ds = true → PyData.eqvAll ds ds = true
  | [], _ => rfl
  | d :: ds, h => by
    have h' : d.canLay0 = true ∧ PyData.canLayAll0 ds = true := by simpa only [PyData.canLayAll0, Bool.and_eq_true] using h
    show (PyData.eqv d d && PyData.eqvAll ds ds) = true
    rw [eqv_refl d h'.1, eqvA_refl ds h'.2]
    rfl
end
end
end PD

/-! PD7: comprehensions over zip, enumerate; all, any; is of bools; calls with keywords; extend, pop -/
namespace PD
open PySem PySem.Spec PyProof.Rows L2 Evl
section
variable {c : Cn} {K : PySem.W.Frag} {ds : DS} {pl : List D} {Φ : W → List D → Prop} {ta tb te : TE} {tr : TA} {tt : TT} {G H : Hp} {σ : L2.St}
theorem lc_turnG (J : Nat → List D → List D → Prop) {σI : L2.St} {dsI : DS} {G1 G' G2 H' H2 : Hp} {Dl : Addr} {i : Nat} {pl' acc : List D} {us : List V} (f : DF c σ ds Dl) (f2 : DF c σI dsI Dl)
    (same : ∀ (i : Nat) (xs : List D), ds[i]? = some (some (W.o xs)) → dsI[i]? = some (some (W.o xs)) ∧ σI[i]? = σ[i]?)
    (h : HS c G' σ H' ds pl') (hw : HS c G2 σI H2 dsI pl') (e1 : Ex G1 G') (e2 : Ex G' G2) (hD : H2 Dl = some (.lst us)) (gD : G2 Dl = none) (ra : RA G' us acc)
    (user : ∀ pin, WT { c with pin := pin } tt dsI pl' fun b p2 => if b = true then WE { c with pin := pin } te dsI p2 (isD fun y p3 => acc.length < sizeLine ∧ J (i + 1) (acc ++ [y]) p3) else J (i + 1) acc p2) :
    J i acc pl' → tt σI H2 fun b H3 => if b = true then te σI H3 fun y H4 => ∃ acc, H4 Dl = some (.lst acc) ∧ acc.length < sizeLine ∧ PvC c σ ds G1 Dl J (i + 1) (upd H4 Dl (.lst (acc ++ [y]))) else PvC c σ ds G1 Dl J (i + 1) H3 := by
  intro hJ
  refine user _ G2 _ H2 (hw.to_with f2 hD gD) _ fun b G3 H3 p2 h3 e3 g2 => ?_
  cases b with
  | true =>
    refine (show WE _ te _ p2 _ from g2) G3 _ H3 h3 _ fun y G4 H4 w p3 h4 e4 f4 g3 => ?_
    match w, f4, g3 with
    | .d z, f4, ⟨g3, g4⟩ =>
      have up := e2.trans (e3.trans e4)
      have b3 := h.back f h4 up same
      have dD : G4 Dl = none := h4.gn Dl _ with_at
      exact ⟨us, h4.pin Dl _ with_at, by rw [ra.len]; exact g3, G4, p3, acc ++ [z], us ++ [y], b3.push f dD, e1.trans up, upd_same, (ra.up up).app (.cons f4 .nil), dD, g4⟩
  | false =>
    have up := e2.trans e3
    exact ⟨G3, p2, acc, us, h.back f h3 up same, e1.trans up, h3.pin Dl _ with_at, ra.up up, h3.gn Dl _ with_at, g2⟩
theorem two_slots {j1 j2 : Nat} {Dl : Addr} {v1 v2 : V} {d1 d2 : D} (f : DF c σ ds Dl) (hj : ∀ (xs : List D), ds[j1]? ≠ some (some (W.o xs)) ∧ ds[j2]? ≠ some (some (W.o xs))) :
    DF c (((L2.wipe σ [j1, j2]).set j1 (some v1)).set j2 (some v2)) (((wipeD ds [j1, j2]).set j1 (some (.d d1))).set j2 (some (.d d2))) Dl ∧
    ∀ (i : Nat) (xs : List D), ds[i]? = some (some (W.o xs)) → (((wipeD ds [j1, j2]).set j1 (some (.d d1))).set j2 (some (.d d2)))[i]? = some (some (W.o xs)) ∧ (((L2.wipe σ [j1, j2]).set j1 (some v1)).set j2 (some v2))[i]? = σ[i]? := by
  have out : ∀ {i : Nat}, j1 ≠ i → j2 ≠ i → i ∉ [j1, j2] := fun a b z => by
    rcases List.mem_cons.mp z with z | z
    · exact a z.symm
    · exact b (List.mem_singleton.mp z).symm
  have vals : ∀ {i : Nat} {xs : List D}, (((wipeD ds [j1, j2]).set j1 (some (.d d1))).set j2 (some (.d d2)))[i]? = some (some (W.o xs)) → j1 ≠ i ∧ j2 ≠ i := fun {i xs} q => by
    have hlt := (List.getElem?_eq_some_iff.mp q).1
    rw [List.length_set, List.length_set] at hlt
    refine ⟨fun e => ?_, fun e => ?_⟩
    · subst e
      by_cases e2 : j2 = j1
      · subst e2
        rw [List.getElem?_set_self (by rw [List.length_set]; exact hlt)] at q
        cases q
      · rw [List.getElem?_set_ne e2, List.getElem?_set_self hlt] at q
        cases q
    · subst e
      rw [List.getElem?_set_self (by rw [List.length_set]; exact hlt)] at q
      cases q
  refine ⟨⟨f.h0, f.pin, f.pool, f.hd, fun i xs p q1 q2 => ?_⟩, fun i xs q => ?_⟩
  · obtain ⟨n1, n2⟩ := vals q1
    rw [List.getElem?_set_ne n2, List.getElem?_set_ne n1, wipeD_ne (out n1 n2)] at q1
    rw [List.getElem?_set_ne n2, List.getElem?_set_ne n1, wipe_ne (out n1 n2)] at q2
    exact f.ne i xs p q1 q2
  · have n1 : j1 ≠ i := fun e => (hj xs).1 (e ▸ q)
    have n2 : j2 ≠ i := fun e => (hj xs).2 (e ▸ q)
    rw [List.getElem?_set_ne n2, List.getElem?_set_ne n1, wipeD_ne (out n1 n2), List.getElem?_set_ne n2, List.getElem?_set_ne n1, wipe_ne (out n1 n2)]
    exact ⟨q, rfl⟩
theorem wipe_set2 (σ : L2.St) (j1 j2 : Nat) (v1 v2 : V) : L2.wipe (((L2.wipe σ [j1, j2]).set j1 (some v1)).set j2 (some v2)) [j1, j2] = L2.wipe σ [j1, j2] := by
  show ((((σ.set j2 none).set j1 none).set j1 (some v1)).set j2 (some v2) |>.set j2 none |>.set j1 none) = (σ.set j2 none).set j1 none
  rw [List.set_set, List.set_set]
  by_cases e : j1 = j2
  · subst e; simp only [List.set_set]
  · rw [List.set_comm _ _ e, List.set_set, List.set_set]

theorem we_lcZ {j1 j2 : Nat} (J : Nat → List D → List D → Prop) (xs ys : List D) (hl : ys.length ≤ xs.length) (hj : ∀ (xs : List D), ds[j1]? ≠ some (some (W.o xs)) ∧ ds[j2]? ≠ some (some (W.o xs)))
    (h : WA c tr ds pl fun zs p1 => zs = [.list xs, .list ys] ∧ J 0 [] p1)
    (user : ∀ (i : Nat) x y acc pl', xs[i]? = some x → ys[i]? = some y → J i acc pl' → ∀ pin, WT { c with pin := pin } tt (((wipeD ds [j1, j2]).set j1 (some (.d x))).set j2 (some (.d y))) pl' fun b p2 =>
      if b = true then WE { c with pin := pin } te (((wipeD ds [j1, j2]).set j1 (some (.d x))).set j2 (some (.d y))) p2 (isD fun y p3 => acc.length < sizeLine ∧ J (i + 1) (acc ++ [y]) p3) else J (i + 1) acc p2)
    (hq : ∀ acc pl', J ys.length acc pl' → Φ (.d (.list acc)) pl') : WE c (tLc (iZip K tr) (gTup K 2 (gCons (gName j1) (gCons (gName j2) gNil))) tt te [j1, j2]) ds pl Φ := fun G σ H h0 Q q => h G σ H h0 _ fun vs G1 H1 zs p1 h1 e1 f1 ⟨ez, g1⟩ => by
  subst ez
  obtain ⟨v, u, rfl, r1, r2⟩ := ra2 f1
  cases r1 with
  | @lst a us1 _ a1 b1 =>
  cases r2 with
  | @lst b us2 _ a2 b2 =>
  refine ⟨a, b, us1, us2, rfl, SqL.of (h1.sub _ _ a1), SqL.of (h1.sub _ _ a2), fun Dl hD => ?_⟩
  have f := df_new h1 hD
  refine ⟨fun i m H' => m = us2.length - i ∧ i ≤ us2.length ∧ PvC c σ ds G1 Dl J i H', ⟨us2.length, by simp, Nat.zero_le _, pv_start J h1 hD g1⟩, ?_⟩
  rintro i m H' ⟨rfl, hi, p⟩
  obtain ⟨G', pl', acc, us, h2, e2, hD2, ra, gD, hJ⟩ := id p
  have sq1 : SqL K H' a us1 := SqL.of (h2.sub _ _ (e2 _ _ a1))
  have sq2 : SqL K H' b us2 := SqL.of (h2.sub _ _ (e2 _ _ a2))
  by_cases hlt : i < us2.length
  · have hlt1 : i < us1.length := by rw [b1.len]; rw [b2.len] at hlt; omega
    refine .inr ⟨⟨us1, us2, us1[i], us2[i], sq1, sq2, by simp [hlt1], by simp [hlt]⟩, PvC c σ ds G1 Dl J (i + 1), fun H3 q => ⟨us2.length - (i + 1), by omega, rfl, hlt, q⟩, ?_⟩
    rintro x H3 ⟨T, x1, x2, rfl, hT, rfl, y1, y2⟩
    obtain ⟨d1, hd1, hr1⟩ := b1.get' (y1 us1 sq1)
    obtain ⟨d2, hd2, hr2⟩ := b2.get' (y2 us2 sq2)
    have n := h2.none_of hT
    have e3 : Ex G' (upd G' T (.tup [x1, x2])) := Ex.new n.1
    refine ⟨T, _, rfl, SqT.of upd_same, rfl, _, _, rfl, _, _, rfl, rfl, wipe_set2 σ j1 j2 x1 x2, ?_⟩
    have hw := (((h2.newD (o := .tup [x1, x2]) hT).wipe [j1, j2]).set (i := j1) (w := .d d1) (R.up hr1 (e2.trans e3)) fun xs z => by cases z).set (i := j2) (w := .d d2) (R.up hr2 (e2.trans e3)) fun xs z => by cases z
    obtain ⟨f2, same⟩ := two_slots (v1 := x1) (v2 := x2) (d1 := d1) (d2 := d2) f hj
    refine lc_turnG J f f2 same h2 hw e2 e3 (by rw [upd_ne (ne_of_none hD2 hT)]; exact hD2) ?_ ra (fun pin => user i d1 d2 acc pl' hd1 hd2 hJ pin) hJ
    rw [upd_ne (ne_of_none hD2 hT)]
    exact gD
  · have ei : i = us2.length := by omega
    subst ei
    rw [b2.len] at p
    exact .inl ⟨⟨us1, us2, sq1, sq2, .inr (Nat.le_refl _)⟩, pv_end f p hq fun v G' H' w pl' h2 e2 f2 g2 => q v G' H' w pl' h2 (e1.trans e2) f2 g2⟩
theorem RA.bls {G : Hp} : ∀ {vs : List V} {bs : List Bool}, RA G vs (bs.map PyData.bool) → vs = bs.map V.bl
  | _, [], h => by cases h; rfl
  | _, n :: ns, h => by
    cases h with
    | cons a b =>
      cases a
      rw [List.map_cons, RA.bls b]
theorem cb_all {bs : List Bool} (h : Φ (.d (.bool (bs.all id))) pl) : CbS c (rAll K) ds [.list (bs.map PyData.bool)] pl Φ := fun G σ H vs hs f Q q => by
  obtain ⟨v, rfl, a⟩ := ra1 f
  cases a with
  | lst a b =>
    have e := b.bls
    subst e
    exact ⟨_, bs, rfl, SqL.of (hs.sub _ _ a), q _ G H (.d _) pl hs (Ex.refl _) (R.bl _) h⟩
theorem os_isB {a b : Bool} {p2 : List D} (h : Φ (.d (.bool (decide (a = b)))) p2) : OpS c L2.rIsB ds (.bool a) (.bool b) p2 Φ := fun G σ H v u hs hv hu Q q => ⟨a, b, hv.bl, hu.bl, q _ G H (.d _) p2 hs (Ex.refl _) (R.bl _) h⟩
/-! ### isinstance -/
def tyD : D → String
  | .none => "NoneType"
  | .bool _ => "bool"
  | .int _ => "int"
  | .str _ => "str"
  | .list _ => "list"
  | .tuple _ => "tuple"
  | .dict _ => "dict"
def isaN (T n : String) : Bool := T == n || (n == "bool" && T == "int")
def isaD (T : String) (d : D) : Bool := isaN T (tyD d)
def tyNames : List String := ["NoneType", "bool", "int", "str", "list", "tuple", "dict"]
theorem kitB_all : ∀ T ∈ (["int", "bool", "tuple", "list", "str"] : List String), ∀ n ∈ tyNames, kitB n T = some (isaN T n) := by decide +kernel
theorem tyD_mem (d : D) : tyD d ∈ tyNames := by cases d <;> simp [tyD, tyNames]
theorem kit_tyD {T : String} (hT : T ∈ (["int", "bool", "tuple", "list", "str"] : List String)) (d : D) : PySem.W.kitOne K (.type (tyD d)) (.type T) = some (isaD T d) := kit_ty (kitB_all T hT _ (tyD_mem d))
theorem tyX_of {v : V} {d : D} (h : RT G H v d) (s : Ex G H) : TyX K H v (.type (tyD d)) := by
  cases d with
  | none => rw [h.non]; exact .base .non
  | bool b => rw [h.bl]; exact .base (.bl b)
  | int i => rw [h.int]; exact .base (.int i)
  | str x => rw [h.str]; exact .base (.str x)
  | list xs =>
    obtain ⟨p, vs, rfl, a, b⟩ := h.list s
    exact .base (.lst a)
  | tuple xs =>
    obtain ⟨p, vs, rfl, a, b⟩ := h.tup s
    exact .base (.tup a)
  | dict kvs =>
    rcases h with h | ⟨_, _, _, _, e, _⟩
    · cases h
    · cases e
theorem we_isi {T : String} (hT : T ∈ (["int", "bool", "tuple", "list", "str"] : List String)) (ha : WE c ta ds pl (isS fun d p1 => Φ (.d (.bool (isaD T d))) p1)) : WE c (tCB (rIsi K) (tCons ta (tCons (tC (.ty T)) tNil))) ds pl Φ := fun G σ H hs Q q =>
  ha G σ H hs _ fun v G1 H1 w p1 h1 e1 f1 g1 => by
    match w, f1, g1 with
    | .d d, f1, g1 => exact ⟨v, .ty T, _, _, _, rfl, .ty T, tyX_of (.inl f1) h1.sub, kit_tyD hT d, q _ G1 H1 (.d _) p1 h1 e1 (R.bl _) g1⟩
    | .o xs, f1, g1 =>
      obtain ⟨p, us, ev, a2, a3, _⟩ := f1
      subst ev
      exact ⟨_, .ty T, _, _, _, rfl, .ty T, tyX_of (.inr ⟨p, us, xs, rfl, rfl, a2, a3⟩) h1.sub, kit_tyD hT (.list xs), q _ G1 H1 (.d _) p1 h1 e1 (R.bl _) g1⟩
end
end PD

/-! PD8: promises by a type of arguments -/
namespace PD
open PySem PySem.Spec PyProof.Rows L2 Evl
def rel {A : Type} (enc : A → List D) (pre : A → Prop) (post : A → D → Prop) : List D → (D → Prop) → Prop := fun ds k => ∃ a, ds = enc a ∧ pre a ∧ ∀ d, post a d → k d
def det {A : Type} (enc : A → List D) (pre : A → Prop) (res : A → D) : List D → (D → Prop) → Prop := fun ds k => ∃ a, ds = enc a ∧ pre a ∧ k (res a)
def newL {A : Type} (enc : A → List D) (pre : A → Prop) (res : A → List D) : List D → (List D → Prop) → Prop := fun ds k => ∃ a, ds = enc a ∧ pre a ∧ k (res a)
theorem rel_mono {A : Type} {enc : A → List D} {pre : A → Prop} {post : A → D → Prop} : ∀ xs k k', rel enc pre post xs k → (∀ d, k d → k' d) → rel enc pre post xs k' := fun _ _ _ ⟨a, e, p, h⟩ g => ⟨a, e, p, fun d q => g d (h d q)⟩
theorem det_mono {A : Type} {enc : A → List D} {pre : A → Prop} {res : A → D} : ∀ xs k k', det enc pre res xs k → (∀ d, k d → k' d) → det enc pre res xs k' := fun _ _ _ ⟨a, e, p, h⟩ g => ⟨a, e, p, g _ h⟩
section
variable {c : Cn} {K : PySem.W.Frag} {ds : DS} {pl : List D} {Φ : W → List D → Prop} {tr : TA} {E : XK} {A : Type} {enc : A → List D} {pre : A → Prop}
theorem we_det {res : A → D} (a : A) (ha : WA c tr ds pl fun xs p1 => xs = enc a ∧ pre a ∧ Φ (.d (res a)) p1) : WE c (tCall (spP (det enc pre res)) [] E tr) ds pl Φ := we_call (ha.mono fun xs p1 ⟨e, p, h⟩ => ⟨a, e, p, h⟩) det_mono
theorem we_rel {post : A → D → Prop} (a : A) (ha : WA c tr ds pl fun xs p1 => xs = enc a ∧ pre a ∧ ∀ d, post a d → Φ (.d d) p1) : WE c (tCall (spP (rel enc pre post)) [] E tr) ds pl Φ := we_call (ha.mono fun xs p1 ⟨e, p, h⟩ => ⟨a, e, p, h⟩) rel_mono
section
variable {p2 r : List D} {x y z : D}
theorem os_t0 (h : Φ (.d x) p2) : OpS c (rIx K) ds (.tuple (x :: r)) (.int 0) p2 Φ := os_ix (by
  have : (((x :: r).length : Nat) : Int) = r.length + 1 := by simp
  show atI (x :: r) (((0 : Nat) : Int)) = some x
  exact atI_nat rfl) h
theorem os_t1 (h : Φ (.d y) p2) : OpS c (rIx K) ds (.tuple (x :: y :: r)) (.int 1) p2 Φ := os_ix (by
  show atI (x :: y :: r) (((1 : Nat) : Int)) = some y
  exact atI_nat rfl) h
theorem os_l0 (h : Φ (.d x) p2) : OpS c (rIx K) ds (.list (x :: r)) (.int 0) p2 Φ := os_ix (by
  show atI (x :: r) (((0 : Nat) : Int)) = some x
  exact atI_nat rfl) h
theorem os_l1 (h : Φ (.d y) p2) : OpS c (rIx K) ds (.list (x :: y :: r)) (.int 1) p2 Φ := os_ix (by
  show atI (x :: y :: r) (((1 : Nat) : Int)) = some y
  exact atI_nat rfl) h
theorem os_ln {xs : List D} {n : Nat} (hx : xs[n]? = some x) (h : Φ (.d x) p2) : OpS c (rIx K) ds (.list xs) (.int (n : Int)) p2 Φ := os_ix (atI_nat hx) h
end
end
theorem nox_K {CX : CXT} {P : Program} {w : World} {K : PySem.W.Frag} {mg : Str → Option Value} {base : Heap} {N : List Str} {qual : Str} {scope : Scope} {f : Addr} {cd : Value} {A : Around} {outer : List Env} {s : Shared} {H : Hp} {E : XK} :
  (cxOf CX P w K mg base N qual scope f cd A outer s H E).nox.K = K := rfl
theorem blk_K {X : Cx} {s : Shared} {H : Hp} {scope : Scope} {cenv : Env} {fp : List Addr} : (X.blk s H scope cenv fp).K = X.K := rfl
theorem iteV {b : Bool} {A B : Prop} (h : b = true) (k : A) : if b = true then A else B := by rw [if_pos h]; exact k
theorem iteN {b : Bool} {A B : Prop} (h : b = false) (k : B) : if b = true then A else B := by rw [h]; exact iteF k
theorem ws_unpN {c : Cn} {K : PySem.W.Frag} {ds : DS} {pl : List D} {te : TE} {E : EE} {i j n : Nat} (hn : n = 2) (h : WE c te ds pl (isD fun d p1 => ∃ x y, d = .tuple [x, y] ∧ E.nx ((ds.set i (some (.d x))).set j (some (.d y))) p1)) :
    WS c (tAsg te (gTup K n (gCons (gName i) (gCons (gName j) gNil)))) ds pl E := by subst hn; exact ws_unp h
theorem we_chain {c : Cn} {ds : DS} {pl : List D} {Φ : W → List D → Prop} {ta tb tc : TE} {a b c' : Int} (h1 : WE c ta ds pl fun w p => w = .d (.int a) ∧ p = pl) (h2 : WE c tb ds pl fun w p => w = .d (.int b) ∧ p = pl) (h3 : WE c tc ds pl fun w p => w = .d (.int c') ∧ p = pl)
    (h : Φ (.d (.bool (decide (a ≤ b) && decide (b ≤ c')))) pl) : WE c (tChain (rI0 fun i j => .bl (decide (i ≤ j))) (rI0 fun i j => .bl (decide (i ≤ j))) ta tb tc) ds pl Φ := fun G σ H hs Q q => by
  refine h1 G σ H hs _ ?_
  rintro v1 G1 H1 w1 p1 hs1 e1 f1 ⟨rfl, rfl⟩
  cases f1
  refine h2 G1 σ H1 hs1 _ ?_
  rintro v2 G2 H2 w2 p2 hs2 e2 f2 ⟨rfl, rfl⟩
  cases f2
  refine ⟨a, b, rfl, rfl, _, rfl, ?_⟩
  by_cases z : a ≤ b
  · have z' : decide (a ≤ b) = true := decide_eq_true z
    rw [z'] at h
    simp only [z', if_true]
    refine h3 G2 σ H2 hs2 _ ?_
    rintro v3 G3 H3 w3 p3 hs3 e3 f3 ⟨rfl, rfl⟩
    cases f3
    exact ⟨b, c', rfl, rfl, q _ G3 H3 (.d _) _ hs3 (e1.trans (e2.trans e3)) (R.bl _) h⟩
  · have z' : decide (a ≤ b) = false := decide_eq_false z
    rw [z'] at h
    simp only [z']
    exact q _ G2 H2 (.d (.bool false)) _ hs2 (e1.trans e2) (R.bl _) h
end PD

/-! PD9: the mathematics of combs and moves -/
namespace PD
open PySem PySem.Spec PyProof.Rows L2 Evl

def isWhole : D → Bool
  | .int _ => true
  | _ => false
def isPair : D → Bool
  | .tuple [_, _] => true
  | _ => false
def isWholePair : D → Bool
  | .tuple [.int _, .int _] => true
  | _ => false
def isPitch : D → Bool
  | .int p => decide (1 ≤ p ∧ p ≤ 24)
  | _ => false
structure Comb where
  p : Int
  ts : List Int
abbrev Comb.d (c : Comb) : D := .tuple [.int c.p, .list (c.ts.map PyData.int)]
structure Comb.Ok (c : Comb) : Prop where
  p1 : 1 ≤ c.p
  p24 : c.p ≤ 24
  ne : c.ts ≠ []
  low : ∀ t ∈ c.ts, 0 ≤ t
  high : ∀ t ∈ c.ts, t < c.p
  up : c.ts.Pairwise (· < ·)
abbrev Dv := Comb × Comb
abbrev Dv.d (v : Dv) : D := .tuple [v.1.d, v.2.d]
def Dv.Ok (v : Dv) : Prop := v.1.Ok ∧ v.2.Ok
abbrev Sv := Int × Int
abbrev Sv.d (s : Sv) : D := .tuple [.int s.1, .int s.2]
def caught (c : Comb) (n : Int) : Bool := decide (n % c.p ∈ c.ts)
def held (v : Dv) (s : Sv) : Bool := caught v.1 s.1 || caught v.2 (s.1 - s.2)
def IsBelow (c : Comb) (n b : Int) : Prop := b ≤ n ∧ caught c b = true ∧ ∀ m, b < m → m ≤ n → caught c m = false
theorem IsBelow.uniq {c : Comb} {n a b : Int} (ha : IsBelow c n a) (hb : IsBelow c n b) : a = b := by
  obtain ⟨a1, a2, a3⟩ := ha
  obtain ⟨b1, b2, b3⟩ := hb
  rcases Int.lt_trichotomy a b with h | h | h
  · have := a3 b h b1
    rw [b2] at this
    cases this
  · exact h
  · have := b3 a h a1
    rw [a2] at this
    cases this
def lowT (c : Comb) (r : Int) : List Int := c.ts.filter fun t => decide (t ≤ r)
def flo (c : Comb) (n : Int) : Int := if lowT c (n % c.p) = [] then n - n % c.p - c.p + c.ts.getLastD 0 else n - n % c.p + (lowT c (n % c.p)).getLastD 0
theorem last_mem : ∀ {l : List Int}, l ≠ [] → l.getLastD 0 ∈ l
  | [], h => absurd rfl h
  | [a], _ => by simp
  | a :: b :: r, _ => by
    have ih := last_mem (l := b :: r) (by simp)
    have e : (a :: b :: r).getLastD 0 = (b :: r).getLastD 0 := by simp [List.getLastD_cons]
    rw [e]
    exact List.mem_cons_of_mem _ ih
theorem last_max : ∀ {l : List Int} {x : Int}, l.Pairwise (· < ·) → x ∈ l → x ≤ l.getLastD 0
  | [], _, _, h => by cases h
  | [a], x, _, h => by
    have := List.mem_singleton.mp h
    subst this
    simp
  | a :: b :: r, x, hp, h => by
    have e : (a :: b :: r).getLastD 0 = (b :: r).getLastD 0 := by simp [List.getLastD_cons]
    rw [e]
    obtain ⟨h1, h2⟩ := List.pairwise_cons.mp hp
    rcases List.mem_cons.mp h with z | z
    · subst z
      exact Int.le_of_lt (h1 _ (last_mem (by simp)))
    · exact last_max h2 z
theorem mod_of {p b t : Int} (h0 : 0 ≤ t) (h1 : t < p) (k : Int) (hb : b = p * k + t) : b % p = t := by
  rw [hb, Int.add_comm, Int.add_mul_emod_self_left]
  exact Int.emod_eq_of_lt h0 h1
theorem flo_spec {c : Comb} (ok : c.Ok) (n : Int) : IsBelow c n (flo c n) := by
  have hp : 0 < c.p := by have := ok.p1; omega
  have r0 := Int.emod_nonneg n (show c.p ≠ 0 by omega)
  have r1 := Int.emod_lt_of_pos n hp
  have hb : n = c.p * (n / c.p) + n % c.p := (Int.mul_ediv_add_emod n c.p).symm
  have res : ∀ m s : Int, ∀ k : Int, m = c.p * k + s → 0 ≤ s → s < c.p → caught c m = decide (s ∈ c.ts) := fun m s k e a b => by
    unfold caught
    rw [mod_of a b k e]
  generalize n % c.p = r at r0 r1 hb
  generalize n / c.p = q at hb
  unfold flo
  have er : n % c.p = r := by rw [hb]; rw [Int.add_comm, Int.add_mul_emod_self_left]; exact Int.emod_eq_of_lt r0 r1
  rw [er]
  by_cases hl : lowT c r = []
  · rw [if_pos hl]
    have none_low : ∀ t ∈ c.ts, r < t := fun t ht => by
      by_cases z : t ≤ r
      · have : t ∈ lowT c r := List.mem_filter.mpr ⟨ht, decide_eq_true z⟩
        rw [hl] at this
        cases this
      · omega
    have lm := last_mem ok.ne
    have l0 := ok.low _ lm
    have l1 := ok.high _ lm
    have mul1 : c.p * (q - 1) = c.p * q - c.p := by rw [Int.mul_sub, Int.mul_one]
    refine ⟨by omega, ?_, fun m m1 m2 => ?_⟩
    · rw [res _ (c.ts.getLastD 0) (q - 1) (by omega) l0 l1]
      exact decide_eq_true lm
    · by_cases hm : c.p * q ≤ m
      · rw [res m (m - c.p * q) q (by omega) (by omega) (by omega)]
        exact decide_eq_false fun z => by have := none_low _ z; omega
      · rw [res m (m - c.p * q + c.p) (q - 1) (by omega) (by omega) (by omega)]
        exact decide_eq_false fun z => by have := last_max ok.up z; omega
  · rw [if_neg hl]
    have lm := last_mem hl
    have lm2 := List.mem_filter.mp lm
    have lr := of_decide_eq_true lm2.2
    have l0 := ok.low _ lm2.1
    have l1 := ok.high _ lm2.1
    have up : (lowT c r).Pairwise (· < ·) := ok.up.sublist (List.filter_sublist ..)
    refine ⟨by omega, ?_, fun m m1 m2 => ?_⟩
    · rw [res _ ((lowT c r).getLastD 0) q (by omega) l0 l1]
      exact decide_eq_true lm2.1
    · rw [res m (m - c.p * q) q (by omega) (by omega) (by omega)]
      exact decide_eq_false fun z => by
        have : m - c.p * q ∈ lowT c r := List.mem_filter.mpr ⟨z, decide_eq_true (by omega)⟩
        have := last_max up this
        omega
def mv (v : Dv) (s : Sv) (m : Int) : Sv := if m > 0 then (s.2 + m + max (s.1 - s.2 - m) (flo v.2 (s.1 - s.2)), s.2 + m) else (max (s.1 + m) (flo v.1 s.1), s.2 + m)
def mvs (v : Dv) (s : Sv) (ms : List Int) : Sv := ms.foldl (mv v) s
def trail (v : Dv) : Sv → List Int → List Sv
  | _, [] => []
  | s, m :: r => mv v s m :: trail v (mv v s m) r
/-! ### lists of ints as data -/
theorem ints_at {ns : List Int} {i : Nat} {x : D} (h : (ns.map PyData.int)[i]? = some x) : ∃ t, ns[i]? = some t ∧ x = .int t := by
  rw [List.getElem?_map] at h
  cases e : ns[i]? with
  | none => rw [e] at h; cases h
  | some t =>
    rw [e] at h
    exact ⟨t, rfl, (Option.some.inj h).symm⟩
theorem tfil_yes {l : List Int} {i : Nat} {t : Int} {p : Int → Bool} (h : l[i]? = some t) (hp : p t = true) : (l.take (i + 1)).filter p = (l.take i).filter p ++ [t] := by
  rw [List.take_add_one, h, List.filter_append]
  simp [hp]
theorem tfil_no {l : List Int} {i : Nat} {t : Int} {p : Int → Bool} (h : l[i]? = some t) (hp : p t = false) : (l.take (i + 1)).filter p = (l.take i).filter p := by
  rw [List.take_add_one, h, List.filter_append]
  simp [hp]
theorem sorted_len : ∀ {l : List Int} {a b : Int}, l.Pairwise (· < ·) → (∀ t ∈ l, a ≤ t) → (∀ t ∈ l, t < b) → (l.length : Int) ≤ max 0 (b - a)
  | [], a, b, _, _, _ => by show (0 : Int) ≤ _; omega
  | x :: r, a, b, hp, h1, h2 => by
    obtain ⟨p1, p2⟩ := List.pairwise_cons.mp hp
    have ih := sorted_len (a := x + 1) (b := b) p2 (fun t ht => by have := p1 t ht; omega) fun t ht => h2 t (List.mem_cons_of_mem _ ht)
    have a1 := h1 x List.mem_cons_self
    have a2 := h2 x List.mem_cons_self
    rw [List.length_cons]
    omega
theorem Comb.Ok.len {c : Comb} (ok : c.Ok) : c.ts.length ≤ 24 := by
  have := sorted_len ok.up ok.low ok.high
  have := ok.p24
  omega
theorem ts_small {c : Comb} (ok : c.Ok) (p : Int → Bool) (i : Nat) : ((c.ts.take i).filter p).length < sizeLine := by
  have h1 := List.length_filter_le p (c.ts.take i)
  have h2 : (c.ts.take i).length ≤ c.ts.length := by rw [List.length_take]; omega
  have h3 := ok.len
  rw [sizeLine_eq]
  omega
theorem ix_last {l : List Int} (h : l ≠ []) : ixD (.list (l.map PyData.int)) (-1) = some (.int (l.getLastD 0)) := by
  have e : l = l.dropLast ++ [l.getLastD 0] := by
    rw [show l.getLastD 0 = l.getLast h by simp [List.getLastD_eq_getLast?, List.getLast?_eq_getLast h]]
    exact (List.dropLast_concat_getLast h).symm
  show atI (l.map PyData.int) (-1) = _
  rw [e, List.map_append]
  have e2 : (l.dropLast ++ [l.getLastD 0]).getLastD 0 = l.getLastD 0 := by rw [← e]
  rw [e2]
  exact atI_last _ _
theorem StCut.cut1 (xs : List D) : cutD xs (some 1) none = xs.drop 1 := by
  unfold cutD
  rw [show HT.sIx xs.length 0 (some 1) = min 1 xs.length from HT.sIx_nat xs.length 0 1, HT.sIx_none]
  cases xs with
  | nil => rfl
  | cons x r =>
    have e : min 1 (x :: r).length = 1 := by rw [List.length_cons]; omega
    rw [e, List.drop_succ_cons, List.drop_zero, List.length_cons, Nat.add_sub_cancel, List.take_length]
theorem cut_tail (xs : List Int) : cutD (xs.map PyData.int) (some 1) none = xs.tail.map PyData.int := by
  have h := StCut.cut1 (xs.map PyData.int)
  rw [h, List.drop_one, List.map_tail]
theorem asc_next : ∀ {l : List Int} {i : Nat} {a b : Int}, l.Pairwise (· < ·) → l[i]? = some a → l[i + 1]? = some b → a < b
  | [], _, _, _, _, h, _ => by simp at h
  | x :: r, 0, a, b, hp, h1, h2 => by
    have := Option.some.inj h1
    subst this
    exact (List.pairwise_cons.mp hp).1 b (List.mem_of_getElem? (i := 0) (by simpa using h2))
  | x :: r, i + 1, a, b, hp, h1, h2 => asc_next (List.pairwise_cons.mp hp).2 (by simpa using h1) (by simpa using h2)
end PD

/-! PD10: a law's pool, its script -/
namespace PD
open PySem PySem.Spec PyProof.Rows L2 Evl

def Pk (n : Nat) (pl : List D) : Prop := ∃ a b c : Int, pl = [.int a, .int b, .int c] ∧ 0 ≤ a ∧ 0 ≤ b ∧ b < 2 ^ 100 ∧ 0 ≤ c ∧ c ≤ n
theorem Pk.up {n m : Nat} {pl : List D} (h : Pk n pl) (e : n ≤ m) : Pk m pl := by
  obtain ⟨a, b, c, h1, h2, h3, h4, h5, h6⟩ := h
  exact ⟨a, b, c, h1, h2, h3, h4, h5, by omega⟩
def poolF {A : Type} (L : Nat) (enc : A → List D) (pre : A → Prop) (B : A → Nat) (post : A → D → Prop) : List D → List D → (D → List D → Prop) → Prop := fun pl ds k => ∃ (a : A) (n : Nat), ds = enc a ∧ pre a ∧ Pk n pl ∧ n < L ∧ ∀ d pl', post a d → Pk (n + B a) pl' → k d pl'
theorem poolF_mono {A : Type} {L : Nat} {enc : A → List D} {pre : A → Prop} {B : A → Nat} {post : A → D → Prop} : ∀ pl ds k k', poolF L enc pre B post pl ds k → (∀ d p, k d p → k' d p) → poolF L enc pre B post pl ds k' :=
  fun _ _ _ _ ⟨a, n, e, p, q, l, h⟩ g => ⟨a, n, e, p, q, l, fun d p x y => g d p (h d p x y)⟩
section
variable {c : Cn} {K : PySem.W.Frag} {ds : DS} {pl : List D} {Φ : W → List D → Prop} {tr : TA} {te : TE} {E : XK} {A : Type} {enc : A → List D} {pre : A → Prop} {B : A → Nat} {post : A → D → Prop} {L : Nat}
theorem we_pool {i : Nat} {p : Addr} (a : A) (hi : ds[i]? = some (some (.v (.ref p)))) (hp : c.pool = some p)
    (ha : WA c tr ds pl fun xs p1 => xs = enc a ∧ pre a ∧ ∃ n, Pk n p1 ∧ n < L ∧ ∀ d p2, post a d → Pk (n + B a) p2 → Φ (.d d) p2) : WE c (tCall (spO (poolF L enc pre B post)) [] E (tCons (tVar i) tr)) ds pl Φ :=
  we_callO hi hp (ha.mono fun xs p1 ⟨e, h, n, q, l, k⟩ => ⟨a, n, e, h, q, l, k⟩) poolF_mono
/-! ### the script -/
def Scr (K : PySem.W.Frag) (c : Cn) (a : Addr) (ns : List Int) : Prop := SqL K c.H0 a (ns.map V.int) ∧ c.pool ≠ some a
theorem Scr.at {a : Addr} {ns : List Int} (h : Scr K c a ns) {G H : Hp} {σ : L2.St} (hs : HS c G σ H ds pl) : SqL K H a (ns.map V.int) := by
  obtain ⟨h, hp⟩ := h
  rcases h with (h | ⟨o, h⟩) | h
  · exact .inl (.inl (hs.keep _ _ hp h))
  · exact .inl (.inr ⟨o, hs.keep _ _ hp h⟩)
  · exact .inr h
theorem we_lenS {a : Addr} {ns : List Int} {i : Nat} (hS : Scr K c a ns) (hi : ds[i]? = some (some (.v (.ref a)))) (h : Φ (.d (.int ns.length)) pl) : WE c (tCB (rLenQ K) (tCons (tVar i) tNil)) ds pl Φ := fun G σ H hs Q q => by
  obtain ⟨v, e1, e2⟩ := hs.slots i _ hi
  have e2' : v = .ref a := e2
  subst e2'
  refine ⟨_, e1, a, ns.map V.int, rfl, .inl (hS.at hs), ?_⟩
  rw [List.length_map]
  exact q _ G H (.d _) pl hs (Ex.refl _) (R.int _) h
theorem we_ixS {a : Addr} {ns : List Int} {i : Nat} (hS : Scr K c a ns) (hi : ds[i]? = some (some (.v (.ref a)))) (hb : WE c te ds pl (isI fun k p1 => ∃ e, atI ns k = some e ∧ Φ (.d (.int e)) p1)) : WE c (tOp (rIx K) (tVar i) te) ds pl Φ := fun G σ H hs Q q => by
  obtain ⟨v, e1, e2⟩ := hs.slots i _ hi
  have e2' : v = .ref a := e2
  subst e2'
  refine ⟨_, e1, hb G σ H hs _ fun u G1 H1 w p1 h1 e1 f1 g1 => ?_⟩
  match w, f1, g1 with
  | .d (.int k), f1, ⟨e, g1, g2⟩ =>
    cases f1
    have g1' : atI (ns.map V.int) k = some (.int e) := by
      unfold atI at g1 ⊢
      rw [List.length_map]
      cases q : ixN ns.length k with
      | none => rw [q] at g1; cases g1
      | some j =>
        rw [q] at g1
        show (ns.map V.int)[j]? = _
        rw [List.getElem?_map]
        have g1'' : ns[j]? = some e := g1
        rw [g1'']
        rfl
    exact .inl ⟨a, _, k, _, rfl, rfl, hS.at h1, g1', q _ G1 H1 (.d _) p1 h1 e1 (R.int _) g2⟩
/-! ### a new list becomes the pool -/
def spMk (K : PySem.W.Frag) (F : List Int → Int → (List D → Prop) → Prop) : Sp := fun vs H Q _ => ∃ G a ns i, vs = [.ref a, .int i] ∧ Ex G H ∧ SqL K H a (ns.map V.int) ∧ F ns i fun xs => ∀ p us G' H', Ex H H' → Ex G' H' → Ex G G' → (∀ a o, H a = some o → G a = none → G' a = none) → H p = none → G' p = none →
  H' p = some (.lst us) → RA G' us xs → Q (.ref p) H'
theorem HS.topool {G H : Hp} {σ : L2.St} (hc : c.pool = none) (h : HS c G σ H ds pl) {p : Addr} {us : List V} {xs : List D} (hp : H p = some (.lst us)) (r : RA G us xs) (gp : G p = none) (h0 : c.H0 p = none) (hn : c.pin p = none) (hh : ¬ c.hd p)
    (hd : ∀ (i : Nat) (ys : List D), ds[i]? = some (some (W.o ys)) → σ[i]? ≠ some (some (.ref p))) : HS { c with pool := some p } G σ H ds xs := by
  refine ⟨h.sub, h.gh, fun a q => ?_, h.gn, fun a o _ q => h.keep a o (by rw [hc]; simp) q, fun q z => ?_, h.pin, h.hid, h.len, fun i w q => ?_, h.own⟩
  · cases q; exact gp
  · cases z
    exact ⟨hh, hn, us, hp, r⟩
  · obtain ⟨v, e1, e2⟩ := h.slots i w q
    refine ⟨v, e1, ?_⟩
    cases w with
    | d x => exact e2
    | v x => exact e2
    | o ys =>
      obtain ⟨p', vs, rfl, a1, a2, a3, a4, a5, a6, a7⟩ := e2
      exact ⟨p', vs, rfl, a1, a2, a3, a4, a5, fun z => hd i ys q (by rw [e1, Option.some.inj z]), a7⟩
theorem HS.offpool {G H : Hp} {σ : L2.St} {p : Addr} (hc : c.pool = none) (h0 : c.H0 p = none) (h : HS { c with pool := some p } G σ H ds pl) : HS c G σ H ds [] := by
  refine ⟨h.sub, h.gh, fun a q => (by rw [hc] at q; cases q), h.gn, fun a o _ q => h.keep a o (fun z => ?_) q, fun q z => (by rw [hc] at z; cases z), h.pin, h.hid, h.len, fun i w q => ?_, h.own⟩
  · have z' : p = a := Option.some.inj z
    rw [← z', h0] at q
    cases q
  · obtain ⟨v, e1, e2⟩ := h.slots i w q
    refine ⟨v, e1, ?_⟩
    cases w with
    | d x => exact e2
    | v x => exact e2
    | o ys =>
      obtain ⟨p', vs, rfl, a1, a2, a3, a4, a5, a6, a7⟩ := e2
      exact ⟨p', vs, rfl, a1, a2, a3, a4, a5, by rw [hc]; simp, a7⟩
theorem ws_mkpool {F : List Int → Int → (List D → Prop) → Prop} {i j : Nat} {a : Addr} {ns : List Int} {rest : TS} {En : EE} (hc : c.pool = none) (hS : Scr K c a ns) (hj : ds[j]? = some (some (.v (.ref a)))) (ti : TE) (n : Int)
    (hti : WE c ti ds [] fun w p => w = .d (.int n) ∧ p = [])
    (mono : ∀ k k', F ns n k → (∀ d, k d → k' d) → F ns n k')
    (h : F ns n fun xs => ∀ p, WS { c with pool := some p } rest (ds.set i (some (.v (.ref p)))) xs ⟨fun d _ => En.nx d [], fun w _ => En.rt w [], fun d _ => En.bk d [], fun d _ => En.ct d []⟩) :
    WS c (tSeq (tAsg (tCall (spMk K F) [] E (tCons (tVar j) (tCons ti tNil))) (gName i)) rest) ds [] En := fun G σ H hs D' f => by
  obtain ⟨v, e1, e2⟩ := hs.slots j _ hj
  have e2' : v = .ref a := e2
  subst e2'
  refine ⟨_, e1, hti G σ H hs _ ?_⟩
  rintro u G1 H1 w p1 h1 e1' f1 ⟨rfl, rfl⟩
  cases f1
  refine ⟨G1, a, ns, n, rfl, h1.sub, hS.at h1, mono _ _ h fun xs hx p us G' H' a1 a2 a3 a4 a5 a6 a7 a8 => ?_⟩
  obtain ⟨n1, n2, n3, n4, n5⟩ := h1.none_of a5
  have b1 := h1.ext a1 a2 a3 a4
  have b2 : HS { c with pool := some p } G' σ H' ds xs := b1.topool hc a7 a8 a6 n5 n3 n2 fun i ys q1 q2 => by
    obtain ⟨v, e2, p', us', rfl, b1, _⟩ := h1.slots i _ q1
    rw [q2] at e2
    have ep : p = p' := V.ref.inj (Option.some.inj (Option.some.inj e2))
    rw [← ep, a5] at b1
    cases b1
  have b3 := b2.set (i := i) (v := .ref p) (w := .v (.ref p)) rfl fun xs z => by cases z
  refine hx p G' _ H' b3 D' ⟨?_, ?_, ?_, ?_⟩
  · exact fun G3 σ3 H3 ds3 pl3 h3 e3 g3 => f.nx G3 σ3 H3 ds3 [] (h3.offpool hc n5) (e1'.trans (a3.trans e3)) g3
  · intro v G3 σ3 H3 ds3 w3 pl3 h3 e3 q3 g3
    refine f.rt v G3 σ3 H3 ds3 w3 [] (h3.offpool hc n5) (e1'.trans (a3.trans e3)) ?_ g3
    cases w3 with
    | d x => exact q3
    | v x => exact q3
    | o ys =>
      obtain ⟨p', vs, rfl, a1, a2, a3, a4, a5, a6, a7⟩ := q3
      exact ⟨p', vs, rfl, a1, a2, a3, a4, a5, by rw [hc]; simp, a7⟩
  · exact fun G3 σ3 H3 ds3 pl3 h3 e3 g3 => f.bk G3 σ3 H3 ds3 [] (h3.offpool hc n5) (e1'.trans (a3.trans e3)) g3
  · exact fun G3 σ3 H3 ds3 pl3 h3 e3 g3 => f.ct G3 σ3 H3 ds3 [] (h3.offpool hc n5) (e1'.trans (a3.trans e3)) g3
end
section
variable {P : Program} {w : World} {K : PySem.W.Frag} {mg : Str → Option Value} {base : Heap} {k : Nat} {f : Addr} {fd : FuncData} {ps : List Str}
theorem hs_startW {G H : Hp} {vs : List V} {ws : List W} {N : List Str} (s : Ex G H) (hl : vs.length = ws.length) (r : ∀ (i : Nat) (w : W), ws[i]? = some w → ∃ v, vs[i]? = some v ∧ ((∃ d, w = .d d ∧ R G v d) ∨ w = .v v)) :
    HS ⟨H, fun a => G a = none ∧ ∃ o, H a = some o, none, fun _ => none⟩ G (L2.start N vs) H (ws.map some ++ List.replicate (N.length - ws.length) none) [] := by
  have key : ∀ (i : Nat) (w : W), (ws.map some ++ List.replicate (N.length - ws.length) none)[i]? = some (some w) → ws[i]? = some w := fun i w q => by
    by_cases hi : i < ws.length
    · rw [List.getElem?_append_left (by rw [List.length_map]; exact hi), List.getElem?_map, List.getElem?_eq_getElem hi] at q
      rw [List.getElem?_eq_getElem hi]
      exact Option.some.inj q
    · rw [List.getElem?_append_right (by rw [List.length_map]; omega), List.getElem?_replicate] at q
      split at q <;> cases q
  refine ⟨s, fun a q => q.1, fun a q => (by cases q), fun a o q => (by cases q), fun a o _ q => q, fun p q => (by cases q), fun a o q => (by cases q), fun a q => q.2, ?_, fun i w q => ?_, fun i j p xs ys q1 => ?_⟩
  · unfold L2.start
    simp only [List.length_append, List.length_map, List.length_replicate, hl]
  · have q' := key i w q
    have hi : i < ws.length := (List.getElem?_eq_some_iff.mp q').1
    obtain ⟨v, e1, e2⟩ := r i w q'
    refine ⟨v, ?_, ?_⟩
    · unfold L2.start
      rw [List.getElem?_append_left (by rw [List.length_map, hl]; exact hi), List.getElem?_map, e1]
      rfl
    · rcases e2 with ⟨d, rfl, e2⟩ | rfl
      · exact e2
      · rfl
  · have q' := key i _ q1
    obtain ⟨v, e1, e2⟩ := r i _ q'
    rcases e2 with ⟨d, e2, _⟩ | e2 <;> cases e2
theorem fgMk {F : List Int → Int → (List D → Prop) → Prop} {x qual : Str} {st : Stmt} {N : List Str} (Fn : Fun K x qual st f fd) (S : FnScope N ps (defScope st)) (len : ps.length = 2)
    (go : ∀ (cdv : Value) (B : Around) (fr : List Env) (s : Shared) (H : Hp) (E : XK), B.guards = some [] → Room k (B.deeper (envOfC qual (defScope st) s.heap.objs.size f cdv)) → ∃ t, PSs (cxOf CX0 P w K mg base N qual (defScope st) f cdv B fr s H E).nox (defBody st) t ∧
      ∀ c a (ns : List Int) (i : Int) (k : List D → Prop), c.pool = none → Scr K c a ns → F ns i k → WS c t ([W.v (.ref a), W.d (.int i)].map some ++ List.replicate (N.length - 2) none) [] ⟨fun _ _ => False, rtN k, fun _ _ => False, fun _ _ => False⟩) : FG P w K mg base (k + 1) f fd ps (spMk K F) := by
  refine fg_of Fn S (fun vs H Q E h => ?_) fun cdv B fr s H vs Q E hg hr h => ?_
  · obtain ⟨G, a, ns, i, rfl, _⟩ := h
    rw [len]
    rfl
  · obtain ⟨t, der, body⟩ := go cdv B fr s H E hg hr
    refine ⟨t, der, ?_⟩
    obtain ⟨G, a, ns, i, rfl, s0, hS, h⟩ := h
    have st0 := hs_startW (N := N) (vs := [.ref a, .int i]) (ws := [W.v (.ref a), W.d (.int i)]) s0 rfl (fun j w q => by
      match j, q with
      | 0, q => cases q; exact ⟨_, rfl, .inr rfl⟩
      | 1, q => cases q; exact ⟨_, rfl, .inl ⟨_, rfl, .int i⟩⟩
      | j + 2, q => simp at q)
    refine body ⟨H, fun a => G a = none ∧ ∃ o, H a = some o, none, fun _ => none⟩ a ns i _ rfl ⟨hS, by simp⟩ h G _ H st0 _ ⟨?_, ?_, ?_, ?_⟩
    · exact fun G' σ' H' ds' pl' h' e q => q.elim
    · intro v G' σ' H' ds' w' pl' h' e q g
      match w', q, g with
      | .o y, ⟨p, us, ev, a1, a2, a3, a4, a5, a6, a7⟩, g =>
        subst ev
        exact g p us G' H' (fun a o z => h'.keep a o (fun y => by cases y) z) h'.sub e (fun a o z1 z2 => h'.gh a ⟨z2, o, z1⟩) a4 a3 a1 a2
    · exact fun G' σ' H' ds' pl' h' e q => q.elim
    · exact fun G' σ' H' ds' pl' h' e q => q.elim
def spLaw (K : PySem.W.Frag) : Sp := fun vs H Q _ => ∃ (a : Addr) (ns : List Int), vs = [.ref a] ∧ SqL K H a (ns.map V.int) ∧ ns.length ≤ 63 ∧ ∀ H', Q (.bl true) H'
theorem fgLaw {x qual : Str} {st : Stmt} {N : List Str} (Fn : Fun K x qual st f fd) (S : FnScope N ps (defScope st)) (len : ps.length = 1)
    (go : ∀ (cdv : Value) (B : Around) (fr : List Env) (s : Shared) (H : Hp) (E : XK), B.guards = some [] → Room k (B.deeper (envOfC qual (defScope st) s.heap.objs.size f cdv)) → ∃ t, PSs (cxOf CX0 P w K mg base N qual (defScope st) f cdv B fr s H E).nox (defBody st) t ∧
      ∀ c a (ns : List Int), c.pool = none → Scr K c a ns → ns.length ≤ 63 → WS c t ([W.v (.ref a)].map some ++ List.replicate (N.length - 1) none) [] ⟨fun _ _ => False, rtD fun d => d = .bool true, fun _ _ => False, fun _ _ => False⟩) : FG P w K mg base (k + 1) f fd ps (spLaw K) := by
  refine fg_of Fn S (fun vs H Q E h => ?_) fun cdv B fr s H vs Q E hg hr h => ?_
  · obtain ⟨a, ns, rfl, _⟩ := h
    rw [len]
    rfl
  · obtain ⟨t, der, body⟩ := go cdv B fr s H E hg hr
    refine ⟨t, der, ?_⟩
    obtain ⟨a, ns, rfl, hS, hl, h⟩ := h
    have st0 := hs_startW (G := fun _ => none) (H := H) (N := N) (vs := [.ref a]) (ws := [W.v (.ref a)]) (fun a o q => by cases q) rfl (fun j w q => by
      match j, q with
      | 0, q => cases q; exact ⟨_, rfl, .inr rfl⟩
      | j + 1, q => simp at q)
    refine body ⟨H, fun a => (none : Option HO) = none ∧ ∃ o, H a = some o, none, fun _ => none⟩ a ns rfl ⟨hS, by simp⟩ hl (fun _ => none) _ H st0 _ ⟨?_, ?_, ?_, ?_⟩
    · exact fun G' σ' H' ds' pl' h' e q => q.elim
    · intro v G' σ' H' ds' w' pl' h' e q g
      match w', q, g with
      | .d y, q, g =>
        have g' : y = .bool true := g
        subst g'
        cases q
        exact h H'
    · exact fun G' σ' H' ds' pl' h' e q => q.elim
    · exact fun G' σ' H' ds' pl' h' e q => q.elim
end
end PD

/-! PD11: bounds -/
namespace PD
open PySem PySem.Spec PyProof.Rows L2 Evl
theorem nat_lt_pow {i : Int} {n : Nat} (h0 : -(2 : Int) ^ n < i) (h1 : i < (2 : Int) ^ n) : i.natAbs < 2 ^ n := by
  have e : ((2 : Int) ^ n) = ((2 ^ n : Nat) : Int) := by simp
  rw [e] at h0 h1
  omega
theorem mulw {i j : Int} (a b : Nat) (h1 : -(2 : Int) ^ a < i) (h2 : i < (2 : Int) ^ a) (h3 : -(2 : Int) ^ b < j) (h4 : j < (2 : Int) ^ b) (h5 : 0 < a) (h6 : 0 < b) (h7 : a + b ≤ 1000000) : CMulW i j := wide_mul (nat_lt_pow h1 h2) (nat_lt_pow h3 h4) h5 h6 h7
theorem divw {j : Int} (i : Int) (h : 0 < j) (h2 : j < (2 : Int) ^ 200) : CDivW i j := wide_div h (b := 200) (nat_lt_pow (by have : (0 : Int) < (2 : Int) ^ 200 := Int.pow_pos (by decide); omega) h2) (by decide) (by decide)
theorem poww {i : Int} {j : Int} (h0 : 0 ≤ j) (h1 : j ≤ 1000) (h2 : -(2 : Int) ^ 2000 < i) (h3 : i < (2 : Int) ^ 2000) : CPowW i j := ⟨h0, h1, nat_lt_pow h2 h3⟩
theorem pow200 : (2 : Int) ^ 200 < (2 : Int) ^ 2000 ∧ (0 : Int) < (2 : Int) ^ 200 := ⟨by decide +kernel, by decide +kernel⟩
section
variable {c : Cn} {K : PySem.W.Frag} {ds : DS} {pl : List D} {Φ : W → List D → Prop} {tr : TA} {te : TE} {E : XK}
abbrev drawF := poolF 9000000 (fun t : Int => [.int t]) (fun t => 0 < t ∧ t < (2 : Int) ^ 200) (fun _ => 1) (fun t d => ∃ v, d = .int v ∧ 0 ≤ v ∧ v < t)
theorem we_draw {i : Nat} {p : Addr} (t : Int) (n : Nat) (hi : ds[i]? = some (some (.v (.ref p)))) (hp : c.pool = some p)
    (ha : WA c tr ds pl fun xs p1 => xs = [.int t] ∧ (0 < t ∧ t < (2 : Int) ^ 200) ∧ Pk n p1 ∧ n < 9000000 ∧ ∀ v p2, 0 ≤ v → v < t → Pk (n + 1) p2 → Φ (.d (.int v)) p2) : WE c (tCall (spO drawF) [] E (tCons (tVar i) tr)) ds pl Φ :=
  we_pool t hi hp (ha.mono fun xs p1 ⟨e, h, hP, hn, k⟩ => ⟨e, h, n, hP, hn, fun d p2 ⟨v, hv, v0, v1⟩ hP2 => by subst hv; exact k v p2 v0 v1 hP2⟩)
theorem os_pick {xs : List D} {v : Int} {p2 : List D} (Qx : D → Prop) (h0 : 0 ≤ v) (h1 : v < (xs.length : Int)) (hq : ∀ x ∈ xs, Qx x) (k : ∀ x, Qx x → Φ (.d x) p2) : OpS c (rIx K) ds (.list xs) (.int v) p2 Φ := by
  have hlt : v.toNat < xs.length := by omega
  have e : v = (v.toNat : Int) := by omega
  rw [e]
  exact os_ln (List.getElem?_eq_getElem hlt) (k _ (hq _ (List.getElem_mem hlt)))
end
end PD

/-! PD12: sizes of combs, devices, states; lists that are empty or not -/
namespace PD
open PySem PySem.Spec PyProof.Rows L2 Evl
theorem okD_ints {n : Nat} {ns : List Int} (h : ∀ t ∈ ns, t.natAbs < 10 ^ 150) : okD (n + 1) (.list (ns.map PyData.int)) := fun x hx => by
  obtain ⟨t, ht, rfl⟩ := List.mem_map.mp hx
  have := h t ht
  cases n <;> exact this
theorem cnt_ints (ns : List Int) : cnt (.list (ns.map PyData.int)) = ns.length + 1 := by
  show cntA _ + 1 = _
  rw [cntA_ints]
theorem small24 {t : Int} (h0 : -(100 : Int) ≤ t) (h1 : t ≤ 100) : t.natAbs < 10 ^ 150 := Nat.lt_of_le_of_lt (show t.natAbs ≤ 100 by omega) (by decide +kernel)
theorem Comb.Ok.okD {c : Comb} (ok : c.Ok) (n : Nat) : okD (n + 2) c.d := fun x hx => by
  have p1 := ok.p1
  have p2 := ok.p24
  rcases List.mem_cons.mp hx with rfl | hx
  · exact small24 (by omega) (by omega)
  · rw [List.mem_singleton.mp hx]
    exact okD_ints fun t ht => by
      have := ok.low t ht
      have := ok.high t ht
      exact small24 (by omega) (by omega)
theorem Dv.Ok.okD {v : Dv} (ok : v.Ok) (n : Nat) : okD (n + 3) v.d := fun x hx => by
  rcases List.mem_cons.mp hx with rfl | hx
  · exact ok.1.okD n
  · rw [List.mem_singleton.mp hx]
    exact ok.2.okD n
theorem Comb.Ok.cnt {c : Comb} (ok : c.Ok) : cnt c.d ≤ 27 := by
  show PD.cnt (.int c.p) + (PD.cnt (.list (c.ts.map PyData.int)) + 0) + 1 ≤ _
  rw [cnt_ints]
  have := ok.len
  show 1 + _ + 1 ≤ _
  omega
theorem Dv.Ok.cnt {v : Dv} (ok : v.Ok) : cnt v.d ≤ 55 := by
  show PD.cnt v.1.d + (PD.cnt v.2.d + 0) + 1 ≤ _
  have := ok.1.cnt
  have := ok.2.cnt
  omega
section
variable {c : Cn} {K : PySem.W.Frag} {ds : DS} {pl : List D} {Φ : W → List D → Prop}
theorem eqv_nil (ts : List D) : PyData.eqv (.list ts) (.list []) = decide (ts = []) := by
  cases ts with
  | nil => rfl
  | cons x r => rfl
theorem os_neNil {ts : List D} {p2 : List D} (ok : okD 20 (.list ts)) (h : Φ (.d (.bool (decide (ts ≠ [])))) p2) : OpS c (rNeU K) ds (.list ts) (.list []) p2 Φ :=
  os_neUD (shaped_of ok) rfl (by
    rw [eqv_nil]
    have e : (!decide (ts = [])) = decide (ts ≠ []) := by by_cases z : ts = [] <;> simp [z]
    rw [e]
    exact h)
theorem ite_we {ta tb : TE} {b : Bool} (Q : D → Prop) (h1 : b = true → WE c ta ds pl fun w p => ∃ x, w = .d x ∧ Q x ∧ p = pl) (h2 : b = false → WE c tb ds pl fun w p => ∃ x, w = .d x ∧ Q x ∧ p = pl) (hk : ∀ x, Q x → Φ (.d x) pl) : if b = true then WE c ta ds pl Φ else WE c tb ds pl Φ := by
  cases b with
  | true => exact (h1 rfl).mono fun w p ⟨x, e1, q, e2⟩ => by subst e1; subst e2; exact hk x q
  | false => exact (h2 rfl).mono fun w p ⟨x, e1, q, e2⟩ => by subst e1; subst e2; exact hk x q
theorem ite_ws {t u : TS} {b : Bool} {E : EE} (I : DS → List D → Prop) (h1 : b = true → WS c t ds pl { E with nx := I }) (h2 : b = false → WS c u ds pl { E with nx := I }) (hk : ∀ ds' pl', I ds' pl' → E.nx ds' pl') : if b = true then WS c t ds pl E else WS c u ds pl E := by
  cases b with
  | true => exact ws_mono (h1 rfl) hk (fun _ _ h => h) (fun _ _ h => h) fun _ _ h => h
  | false => exact ws_mono (h2 rfl) hk (fun _ _ h => h) (fun _ _ h => h) fun _ _ h => h
end
theorem range_up (n : Nat) : ((List.range n).map fun (i : Nat) => (i : Int)).Pairwise (· < ·) := by
  rw [List.pairwise_map]
  exact List.pairwise_lt_range.imp fun h => by omega
theorem range_in {n : Nat} {t : Int} (h : t ∈ (List.range n).map fun (i : Nat) => (i : Int)) : 0 ≤ t ∧ t < n := by
  obtain ⟨i, hi, rfl⟩ := List.mem_map.mp h
  have := List.mem_range.mp hi
  omega
end PD

/-! PD13: calls with an owned list, new lists by list() and +, a mutated list within a tuple -/
namespace PD
open PySem PySem.Spec PyProof.Rows L2 Evl
section
variable {c : Cn} {K : PySem.W.Frag} {ds : DS} {pl : List D} {Φ : W → List D → Prop} {tr ta' : TA} {te ta tb : TE} {E : XK} {A : Type} {enc : A → List D} {pre : A → Prop} {B : A → Nat} {post : A → D → Prop} {L : Nat} {En : EE}
theorem we_poolE {i : Nat} {p : Addr} (hi : ds[i]? = some (some (.v (.ref p)))) (hp : c.pool = some p)
    (ha : WA c tr ds pl fun xs p1 => ∃ a, xs = enc a ∧ pre a ∧ ∃ n, Pk n p1 ∧ n < L ∧ ∀ d p2, post a d → Pk (n + B a) p2 → Φ (.d d) p2) : WE c (tCall (spO (poolF L enc pre B post)) [] E (tCons (tVar i) tr)) ds pl Φ :=
  we_callO hi hp (ha.mono fun xs p1 ⟨a, e, h, n, q, l, k⟩ => ⟨a, n, e, h, q, l, k⟩) poolF_mono
theorem HS.newO {G H : Hp} {σ : L2.St} (h1 : HS c G σ H ds pl) {p : Addr} (hp : H p = none) {us : List V} {xs : List D} (f1 : RA G us xs) (i : Nat) : HS c G (σ.set i (some (.ref p))) (upd H p (.lst us)) (ds.set i (some (.o xs))) pl := by
  obtain ⟨n1, n2, n3, n4, n5⟩ := h1.none_of hp
  refine (h1.newH hp).set (w := .o xs) ⟨p, us, rfl, upd_same, f1, n1, n5, n3, n4, n2⟩ fun xs _ j ys q1 q2 => ?_
  obtain ⟨v, e2, p', us, rfl, b1, _⟩ := h1.slots j _ q1
  rw [e2] at q2
  have e3 : p' = p := V.ref.inj (Option.some.inj (Option.some.inj q2))
  rw [e3, hp] at b1
  cases b1
end
end PD

/-! PD14: more mathematics: slices, trails, bounds -/
namespace PD
open PySem PySem.Spec PyProof.Rows L2 Evl
section
variable {c : Cn} {K : PySem.W.Frag} {ds : DS} {pl : List D} {σ : L2.St} {E : EE} {t : TS}
end
end PD

/-! PD15: own defs called by name -/
namespace PD
open PySem PySem.Spec PyProof.Rows L2 Evl
def KB (K : PySem.W.Frag) (fd : FuncData) (ps : List Str) : Prop := ∀ (s : Shared) (ws : List Value), K.In s.heap → ws.length = ps.length → BindsTo s fd ⟨[], ps.zip ws⟩ (ps.zip ws)
def KB2 (K : PySem.W.Frag) (fd : FuncData) (ps ks : List Str) : Prop := ∀ (s : Shared) (us ws : List Value), K.In s.heap → (us ++ ws).length = ps.length → ks.length = ws.length → BindsTo s fd ⟨us, ks.zip ws⟩ (ps.zip (us ++ ws))
section
variable {X : Cx} {k : Nat} {f : Addr} {fd : FuncData} {ps ks : List Str} {sp : Sp} {E : XK} {x : Str} {p pos : Pos} {e : Expr} {es : List Expr} {t tk : TA} {kws : List Keyword}
end
def tMapA (gV : List V → List V → List V) (t tk : TA) : TA := fun σ H Q => t σ H fun vs H1 => tk σ H1 fun zs H2 => Q (gV vs zs) H2
section
variable {X : Cx} {k : Nat} {f : Addr} {fd : FuncData} {ps ks : List Str} {sp : Sp} {E : XK} {x : Str} {p pos : Pos} {e : Expr} {es : List Expr} {t tk : TA} {kws : List Keyword} {g : List Value → List Value → List Value} {gV : List V → List V → List V}
end
section
variable {c : Cn} {ds : DS} {pl : List D} {t tk : TA} {gV : List V → List V → List V} {Φ : List D → List D → Prop}
end
def pick {α : Type} (is : List Nat) (ws : List α) : List α := is.filterMap fun i => ws[i]?
theorem vals_pick {zs : List V} {ws : List Value} (r : Vals zs ws) : ∀ is : List Nat, Vals (pick is zs) (pick is ws)
  | [] => .nil
  | i :: is => by
    have ih := vals_pick r is
    unfold pick at ih ⊢
    rw [List.filterMap_cons, List.filterMap_cons]
    cases e : zs[i]? with
    | none => rw [r.none_of e]; exact ih
    | some x =>
      obtain ⟨u, e2, r2⟩ := r.get e
      rw [e2]
      exact .cons r2 ih
theorem RA.pick {G : Hp} {vs : List V} {xs : List D} (r : RA G vs xs) : ∀ is : List Nat, RA G (PD.pick is vs) (PD.pick is xs)
  | [] => .nil
  | i :: is => by
    have ih := RA.pick r is
    unfold PD.pick at ih ⊢
    rw [List.filterMap_cons, List.filterMap_cons]
    cases e : xs[i]? with
    | none =>
      have : vs[i]? = none := List.getElem?_eq_none_iff.mpr (by rw [r.len]; exact List.getElem?_eq_none_iff.mp e)
      rw [this]; exact ih
    | some x =>
      obtain ⟨u, e2, r2⟩ := r.get e
      rw [e2]
      exact .cons r2 ih
def tPick (is : List Nat) (t : TA) : TA := fun σ H Q => t σ H fun vs H1 => Q (pick is vs) H1
def KwOk (K : PySem.W.Frag) (mg : Str → Option Value) (name : Str) (ps ks : List Str) (is : List Nat) : Prop := ∃ f fd, mg name = some (.ref f) ∧ At0 K f fd ∧
  ∀ (s : Shared) (ws : List Value), (pick is ws).length = ps.length → BindsTo s fd ⟨[], ks.zip ws⟩ (ps.zip (pick is ws))
section
variable {X : Cx} {k : Nat} {ps ks : List Str} {sp : Sp} {E : XK} {x : Str} {p pos : Pos} {tk : TA} {kws : List Keyword} {is : List Nat}
theorem pe_callKP (F : Df X.prog X.w X.K X.mg X.base k x ps sp) (Kw : KwOk X.K X.mg x ps ks is) (hG : X.A.guards = some []) (hr : Room k X.A) (hg : Gl X x) (hkw : PK X kws tk)
    (hall : (backToKw pos (keywordEach kws X.env)).all (·.1.isSome) = true := by rfl) (hks : (backToKw pos (keywordEach kws X.env)).filterMap (·.1) = ks := by rfl)
    (hdb : (x == ("__debug__" : Str)) = false := by decide) (hpl : ((backTo pos (starEach [] X.env)).any (·.1) || (backToKw pos (keywordEach kws X.env)).any (·.1.isNone)) = false := by rfl) :
    PE X (.Call (.Name x p) [] kws pos) (tCall sp [] E0 (tPick is tk)) := by
  obtain ⟨f, fd, G, m, kp, b, oc, od, osl, l1⟩ := F
  obtain ⟨f', fd', m', ⟨oc', od', osl', l1'⟩, hb⟩ := Kw
  have e1 : f' = f := by rw [m] at m'; exact (Value.ref.inj (Option.some.inj m')).symm
  subst e1
  have e2 : fd' = fd := by
    rw [l1] at l1'
    have := Option.some.inj l1'
    injection this with _ _ e3 _
    injection e3 with e4
    exact e4.symm
  subst e2
  constructor
  intro pins s σ H Q I h
  apply wpAny_Call_Name_kw
  refine ld_glob I hg m ?_ hdb
  refine PySem.W.callWith_KW0 (h₀ := X.base) I.ok.mod.kin kp hall ?_ hpl
  refine thn (hkw.run pos pins s σ H _ I h) ?_
  rintro ws s2 ⟨zs, H2, I2, rz, q2⟩
  have q2 : sp (pick is zs) H2 Q E0 := by
    have q3 : sp (pick is zs ++ []) H2 Q E0 := q2
    rw [List.append_nil] at q3
    exact q3
  refine ⟨I2.kIn, ?_⟩
  rw [hks]
  have n1 := G.many _ _ _ _ q2
  have r2 := vals_pick rz is
  have b2 := hb s2 ws (by rw [← r2.length]; exact n1)
  apply wpAny_call
  refine codeAny_mono (G.goes X.A X.stack s2 H2 ⟨[], ks.zip ws⟩ _ _ Q E0 hG hr I2.env0 b2 r2 q2) ?_
  intro res s3 hq
  match res, hq with
  | .ok (.ret u), hq => exact I2.after hq
  | .ok .next, hq => exact hq.elim
  | .ok .brk, hq => exact hq.elim
  | .ok .cont, hq => exact hq.elim
  | .error er, hq => exact hq.elim
end
section
variable {c : Cn} {ds : DS} {pl : List D} {t : TA} {is : List Nat} {Φ : List D → List D → Prop}
theorem wa_pick (h : WA c t ds pl fun xs p => Φ (pick is xs) p) : WA c (tPick is t) ds pl Φ := fun G σ H hs Q q =>
  h G σ H hs _ fun vs G1 H1 xs p1 h1 e1 f1 g1 => q _ G1 H1 _ p1 h1 e1 (f1.pick is) g1
end
end PD

/-! PD16: joined moves -/
namespace PD
open PySem PySem.Spec PyProof.Rows L2 Evl
def joinR (acc : List Int) (m : Int) : List Int := if acc ≠ [] ∧ (decide (0 < acc.getLastD 0) = decide (0 < m)) then acc.dropLast ++ [acc.getLastD 0 + m] else acc ++ [m]
def joined (ms : List Int) : List Int := ms.foldl joinR []
section
variable {c : Cn} {K : PySem.W.Frag} {ds : DS} {pl : List D} {Φ : W → List D → Prop} {E : EE}
end
end PD

/-! PD17: defs that hand back new things which their caller changes later -/
namespace PD
open PySem PySem.Spec PyProof.Rows L2 Evl
def WSK (c : Cn) (t : TS) (ds : DS) (pl : List D) (D' : Ends) (G0 : Hp) : Prop := ∀ G σ H, HS c G σ H ds pl → Ex G0 G → t D' σ H
abbrev onlyNx (k : DS → List D → Prop) : EE := ⟨k, fun _ _ => False, fun _ _ => False, fun _ _ => False⟩
section
variable {c : Cn} {K : PySem.W.Frag} {ds : DS} {pl : List D} {t u : TS} {D' : Ends} {G0 : Hp} {E : EE}
theorem wsk_of_ws (h : WS c t ds pl E) (f : Fits c G0 D' E) : WSK c t ds pl D' G0 := fun G σ H hs e => h G σ H hs D' (f.up e)
theorem ws_of_wsk (h : ∀ G0 D', Fits c G0 D' E → WSK c t ds pl D' G0) : WS c t ds pl E := fun G σ H hs D' f => h G D' f G σ H hs (Ex.refl _)
theorem wsk_seq (h : WS c t ds pl (onlyNx fun ds' pl' => WSK c u ds' pl' D' G0)) : WSK c (tSeq t u) ds pl D' G0 := fun G σ H hs e =>
  h G σ H hs { D' with nx := u D' } ⟨fun G' σ' H' ds' pl' h' e' w => w G' σ' H' h' (e.trans e'), fun _ _ _ _ _ _ _ _ _ _ w => w.elim, fun _ _ _ _ _ _ _ w => w.elim, fun _ _ _ _ _ _ _ w => w.elim⟩
def Cn.pinP (c : Cn) (P : Hp) : Cn := { c with pin := fun a => match P a with
  | some o => some o
  | none => c.pin a }
def Fresh (c : Cn) (P : Hp) : Prop := ∀ a o, P a = some o → c.H0 a = none ∧ c.pin a = none ∧ ¬ c.hd a ∧ c.pool ≠ some a
def Cn.hide (c : Cn) (S : Addr → Prop) : Cn := { c with hd := fun a => c.hd a ∨ S a }
theorem pinP_at {P : Hp} {a : Addr} {o : HO} (h : P a = some o) : (c.pinP P).pin a = some o := by unfold Cn.pinP; simp only [h]
theorem pinP_none {P : Hp} {a : Addr} (h : P a = none) : (c.pinP P).pin a = c.pin a := by unfold Cn.pinP; simp only [h]
theorem pinP_or {P : Hp} {a : Addr} {o : HO} (h : (c.pinP P).pin a = some o) : P a = some o ∨ (P a = none ∧ c.pin a = some o) := by
  cases e : P a with
  | some u => rw [pinP_at e] at h; exact .inl (by rw [← h])
  | none => rw [pinP_none e] at h; exact .inr ⟨rfl, h⟩
theorem HS.pinNew {G H H' P : Hp} {σ : L2.St} (h : HS c G σ H ds pl) (e : Ex H H') (hP : ∀ a o, P a = some o → H' a = some o ∧ H a = none) : HS (c.pinP P) G σ H' ds pl := by
  have nP : ∀ {a : Addr} {o : HO}, H a = some o → P a = none := fun {a o} q => by
    cases z : P a with
    | none => rfl
    | some u => rw [(hP a u z).2] at q; cases q
  refine ⟨h.sub.trans e, h.gh, h.gq, fun a o q => ?_, fun a o q1 q2 => e _ _ (h.keep a o q1 q2), fun p z => ?_, fun a o q => ?_, fun a q => ?_, h.len, fun i w q => ?_, h.own⟩
  · rcases pinP_or q with q | ⟨_, q⟩
    · exact (h.none_of (hP a o q).2).1
    · exact h.gn a o q
  · obtain ⟨b1, b2, vs, b3, b4⟩ := h.pl p z
    exact ⟨b1, by rw [pinP_none (nP b3)]; exact b2, vs, e _ _ b3, b4⟩
  · rcases pinP_or q with q | ⟨_, q⟩
    · exact (hP a o q).1
    · exact e _ _ (h.pin a o q)
  · obtain ⟨o, z⟩ := h.hid a q
    exact ⟨o, e _ _ z⟩
  · obtain ⟨v, e1, e2⟩ := h.slots i w q
    refine ⟨v, e1, ?_⟩
    cases w with
    | d x => exact e2
    | v x => exact e2
    | o ys =>
      obtain ⟨p', vs, rfl, a1, a2, a3, a4, a5, a6, a7⟩ := e2
      exact ⟨p', vs, rfl, e _ _ a1, a2, a3, a4, by rw [pinP_none (nP a1)]; exact a5, a6, a7⟩
end

/-! ### a promise of new things: P is what is new -/
def spW (F : List D → (Hp → V → Prop) → Prop) : Sp := fun vs H Q _ => ∃ G ds, Ex G H ∧ RA G vs ds ∧ F ds fun P v => ∀ H', Ex H H' → Ex P H' → (∀ a o, P a = some o → H a = none) → Q v H'
section
variable {c : Cn} {K : PySem.W.Frag} {ds : DS} {pl : List D} {tr : TA} {t u : TS} {D' : Ends} {G0 : Hp} {E : XK} {F : List D → (Hp → V → Prop) → Prop} {Φ : W → List D → Prop}
theorem HS.setV {G H : Hp} {σ : L2.St} (h : HS c G σ H ds pl) (i : Nat) (v : V) : HS c G (σ.set i (some v)) H (ds.set i (some (.v v))) pl := h.set (w := .v v) rfl fun xs z => by cases z
theorem we_callW (ha : WA c tr ds pl fun xs p1 => F xs fun P v => ∃ d, R P v d ∧ Φ (.d d) p1) (mono : ∀ xs k k', F xs k → (∀ P v, k P v → k' P v) → F xs k') : WE c (tCall (spW F) [] E tr) ds pl Φ := fun G σ H hs Q q =>
  ha G σ H hs _ fun vs G1 H1 xs p1 h1 e1 f1 g1 => by
    rw [List.append_nil]
    refine ⟨G1, xs, h1.sub, f1, mono xs _ _ g1 fun P v ⟨d, hd, hk⟩ H' a1 a2 a3 => ?_⟩
    have gP : ∀ {a : Addr} {o : HO}, P a = some o → G1 a = none := fun {a o} z => (h1.none_of (a3 a o z)).1
    let G2 : Hp := fun a => match P a with
      | some o => some o
      | none => G1 a
    have s1 : Ex G1 G2 := fun a o z => by
      show (match P a with | some o => some o | none => G1 a) = some o
      cases y : P a with
      | some u => rw [gP y] at z; cases z
      | none => exact z
    have s2 : Ex P G2 := fun a o z => by
      show (match P a with | some o => some o | none => G1 a) = some o
      rw [z]
    refine q v G2 H' (.d d) p1 (h1.ext a1 (fun a o z => ?_) s1 fun a o z1 z2 => ?_) (e1.trans s1) (R.up hd s2) hk
    · have z' : (match P a with | some o => some o | none => G1 a) = some o := z
      cases y : P a with
      | some u => rw [y] at z'; exact a2 a o (by rw [y]; exact z')
      | none => rw [y] at z'; exact a1 _ _ (h1.sub _ _ z')
    · show (match P a with | some o => some o | none => G1 a) = none
      cases y : P a with
      | some u => rw [a3 a u y] at z1; cases z1
      | none => exact z2
end
section
variable {P : Program} {w : World} {K : PySem.W.Frag} {mg : Str → Option Value} {base : Heap} {k : Nat} {f : Addr} {fd : FuncData} {ps : List Str}
theorem fgW {F : List D → (Hp → V → Prop) → Prop} {x qual : Str} {st : Stmt} {N : List Str} (Fn : Fun K x qual st f fd) (S : FnScope N ps (defScope st)) (len : ∀ ds k, F ds k → ds.length = ps.length)
    (go : ∀ (cdv : Value) (B : Around) (fr : List Env) (s : Shared) (H : Hp) (E : XK), B.guards = some [] → Room k (B.deeper (envOfC qual (defScope st) s.heap.objs.size f cdv)) → ∃ t, PSs (cxOf CX0 P w K mg base N qual (defScope st) f cdv B fr s H E).nox (defBody st) t ∧
      ∀ (c : Cn) ds (k : Hp → V → Prop), c.pool = none → F ds k → ∀ (D' : Ends) (G0 : Hp), (∀ P v H', k P v → Ex c.H0 H' → Ex P H' → (∀ a o, P a = some o → c.H0 a = none) → D'.rt v H') → WSK c t (slotsD N ds) [] D' G0) : FG P w K mg base (k + 1) f fd ps (spW F) := by
  refine fg_of Fn S (fun vs H Q E h => ?_) fun cdv B fr s H vs Q E hg hr h => ?_
  · obtain ⟨G, ds, s1, r, h⟩ := h
    rw [r.len]
    exact len _ _ h
  · obtain ⟨t, der, body⟩ := go cdv B fr s H E hg hr
    refine ⟨t, der, ?_⟩
    obtain ⟨G, ds, s0, r, h⟩ := h
    exact body _ ds _ rfl h { nx := fun _ H' => Q .non H', rt := Q } G (fun P v H' hk a1 a2 a3 => hk H' a1 a2 a3) G _ H (hs_start s0 r) (Ex.refl _)
end

/-! ### combs copied, devices mirrored -/
def combP (c : Comb) (a la : Addr) : Hp := fun b => if b = a then some (.tup [.int c.p, .ref la]) else if b = la then some (.lst (c.ts.map V.int)) else none
theorem combP_r {c : Comb} {a la : Addr} (n : a ≠ la) : R (combP c a la) (.ref a) c.d := by
  refine .tup (xs := [.int c.p, .ref la]) (if_pos rfl) (.cons (.int _) (.cons (.lst (xs := c.ts.map V.int) ?_ (RA.of_ints _)) .nil))
  unfold combP
  rw [if_neg (Ne.symm n), if_pos rfl]
def copyF : List D → (Hp → V → Prop) → Prop := fun ds k => ∃ c : Comb, ds = [c.d] ∧ ∀ a la, a ≠ la → k (combP c a la) (.ref a)
theorem copyF_mono : ∀ xs k k', copyF xs k → (∀ P v, k P v → k' P v) → copyF xs k' := fun _ _ _ ⟨c, e, h⟩ g => ⟨c, e, fun a la n => g _ _ (h a la n)⟩
def orP (P P' : Hp) : Hp := fun a => match P a with
  | some o => some o
  | none => P' a
theorem orP_l {P P' : Hp} : Ex P (orP P P') := fun a o z => by unfold orP; rw [z]
theorem orP_r {P P' : Hp} (d : ∀ a o, P' a = some o → P a = none) : Ex P' (orP P P') := fun a o z => by unfold orP; rw [d a o z]; exact z
theorem orP_or {P P' : Hp} {a : Addr} {o : HO} (h : orP P P' a = some o) : P a = some o ∨ P' a = some o := by
  unfold orP at h
  cases e : P a with
  | some u => rw [e] at h; exact .inl h
  | none => rw [e] at h; exact .inr h
structure Mir (v : Dv) (t a b la lb : Addr) : Prop where
  n1 : a ≠ la
  n2 : b ≠ lb
  n3 : la ≠ lb
  n4 : a ≠ b
  n5 : a ≠ lb
  n6 : b ≠ la
  n7 : t ≠ a
  n8 : t ≠ b
  n9 : t ≠ la
  n10 : t ≠ lb
def mirP (v : Dv) (t a b la lb : Addr) : Hp := fun x => if x = t then some (.tup [.ref a, .ref b]) else orP (combP v.2 a la) (combP v.1 b lb) x
def mirF : List D → (Hp → V → Prop) → Prop := fun ds k => ∃ v : Dv, ds = [v.d] ∧ v.Ok ∧ ∀ t a b la lb, Mir v t a b la lb → k (mirP v t a b la lb) (.ref t)
theorem combP_some {c : Comb} {a la x : Addr} {o : HO} (h : combP c a la x = some o) : x = a ∨ x = la := by
  unfold combP at h
  by_cases e : x = a
  · exact .inl e
  · by_cases e2 : x = la
    · exact .inr e2
    · rw [if_neg e, if_neg e2] at h; cases h
section
variable {v : Dv} {t a b la lb : Addr} (m : Mir v t a b la lb)
include m
end
end PD

/-! PD18: pinned things lent to an expression, changed; owned lists lent to a test -/
namespace PD
open PySem PySem.Spec PyProof.Rows L2 Evl
theorem ra_flat {G G' : Hp} {vs : List V} {n : Nat} {pl : List D} (h : Pk n pl) (r : RA G vs pl) : RA G' vs pl := by
  obtain ⟨a, b, c, rfl, _⟩ := h
  have e : [PyData.int a, PyData.int b, PyData.int c] = [a, b, c].map PyData.int := rfl
  rw [e] at r ⊢
  rw [r.ints]
  exact RA.of_ints _
section
variable {c : Cn} {K : PySem.W.Frag} {ds : DS} {pl : List D} {t u : TS} {D' : Ends} {G0 : Hp} {E : EE} {Φ : W → List D → Prop} {tt : TT} {te : TE}
theorem HS.unpinP {G H P : Hp} {σ : L2.St} (h : HS (c.pinP P) G σ H ds pl) (F : Fresh c P) : HS c G σ H ds pl := by
  have pn : ∀ {a : Addr}, (c.pinP P).pin a = none → c.pin a = none := fun {a} q => by
    cases z : P a with
    | none => rw [pinP_none z] at q; exact q
    | some u => rw [pinP_at z] at q; cases q
  refine ⟨h.sub, h.gh, h.gq, fun a o q => ?_, h.keep, fun p z => ?_, fun a o q => ?_, h.hid, h.len, fun i w q => ?_, h.own⟩
  · cases z : P a with
    | none => exact h.gn a o (by rw [pinP_none z]; exact q)
    | some u => exact h.gn a u (pinP_at z)
  · obtain ⟨b1, b2, b3⟩ := h.pl p z
    exact ⟨b1, pn b2, b3⟩
  · cases z : P a with
    | none => exact h.pin a o (by rw [pinP_none z]; exact q)
    | some u => rw [(F a u z).2.1] at q; cases q
  · obtain ⟨v, e1, e3⟩ := h.slots i w q
    refine ⟨v, e1, ?_⟩
    cases w with
    | d x => exact e3
    | v x => exact e3
    | o ys =>
      obtain ⟨p', vs, rfl, a1, a2, a3, a4, a5, a6, a7⟩ := e3
      exact ⟨p', vs, rfl, a1, a2, a3, a4, pn a5, a6, a7⟩
theorem Fits.pinP {P : Hp} (F : Fresh c P) (f : Fits c G0 D' E) : Fits (c.pinP P) G0 D' E := by
  refine ⟨fun G' σ' H' ds' pl' h e w => f.nx G' σ' H' ds' pl' (h.unpinP F) e w, fun v G' σ' H' ds' w pl' h e q z => f.rt v G' σ' H' ds' w pl' (h.unpinP F) e ?_ z, fun G' σ' H' ds' pl' h e w => f.bk G' σ' H' ds' pl' (h.unpinP F) e w, fun G' σ' H' ds' pl' h e w => f.ct G' σ' H' ds' pl' (h.unpinP F) e w⟩
  cases w with
  | d x => exact q
  | v x => exact q
  | o ys =>
    obtain ⟨p', vs, rfl, a1, a2, a3, a4, a5, a6, a7⟩ := q
    refine ⟨p', vs, rfl, a1, a2, a3, a4, ?_, a6, a7⟩
    cases z : P p' with
    | none => rw [pinP_none z] at a5; exact a5
    | some u => rw [pinP_at z] at a5; cases a5
theorem HS.lendP {G H P : Hp} {σ : L2.St} {i : Nat} {v : V} {d : D} (h : HS (c.pinP P) G σ H ds pl) (F : Fresh c P) (hi : ds[i]? = some (some (.v v))) (r : R P v d) (no : ∀ (j : Nat) (ys : List D), ds[j]? ≠ some (some (W.o ys))) : Ex G (orP P G) ∧ HS c (orP P G) σ H (ds.set i (some (.d d))) pl := by
  have dj : ∀ a o, G a = some o → P a = none := fun a o q => by
    cases z : P a with
    | none => rfl
    | some u => rw [h.gn a u (pinP_at z)] at q; cases q
  have s2 : Ex G (orP P G) := orP_r dj
  refine ⟨s2, fun a o q => ?_, fun a q => ?_, fun a q => ?_, fun a o q => ?_, h.keep, fun p z => ?_, fun a o q => ?_, h.hid, by rw [List.length_set]; exact h.len, fun j w q => ?_, fun j k p xs ys q => ?_⟩
  · rcases orP_or q with q | q
    · exact h.pin a o (pinP_at q)
    · exact h.sub a o q
  · cases z : orP P G a with
    | none => rfl
    | some o =>
      rcases orP_or z with z | z
      · exact absurd q (F a o z).2.2.1
      · rw [h.gh a q] at z; cases z
  · cases z : orP P G a with
    | none => rfl
    | some o =>
      rcases orP_or z with z | z
      · exact absurd q (F a o z).2.2.2
      · rw [h.gq a q] at z; cases z
  · cases z : orP P G a with
    | none => rfl
    | some u =>
      rcases orP_or z with z | z
      · rw [(F a u z).2.1] at q; cases q
      · have : P a = none := dj a u z
        rw [h.gn a o (by rw [pinP_none this]; exact q)] at z; cases z
  · obtain ⟨b1, b2, vs, b3, b4⟩ := (h.unpinP F).pl p z
    exact ⟨b1, b2, vs, b3, b4.up s2⟩
  · exact (h.unpinP F).pin a o q
  · obtain ⟨v0, e1, e2⟩ := h.slots i _ hi
    have e2' : v0 = v := e2
    subst e2'
    by_cases e : i = j
    · subst e
      rw [List.getElem?_set_self (List.getElem?_eq_some_iff.mp hi).1] at q
      cases q
      exact ⟨_, e1, R.up r orP_l⟩
    · rw [List.getElem?_set_ne e] at q
      obtain ⟨v, d1, d2⟩ := h.slots j w q
      refine ⟨v, d1, ?_⟩
      cases w with
      | d x => exact R.up d2 s2
      | v x => exact d2
      | o ys => exact absurd q (no j ys)
  · by_cases e : i = j
    · subst e
      rw [List.getElem?_set_self (List.getElem?_eq_some_iff.mp hi).1] at q
      cases q
    · rw [List.getElem?_set_ne e] at q
      exact absurd q (no j xs)
theorem HS.lentP {G H P G' H' : Hp} {σ : L2.St} {i : Nat} {d : D} {p1 : List D} (h : HS (c.pinP P) G σ H ds pl) (F : Fresh c P) (no : ∀ (j : Nat) (ys : List D), ds[j]? ≠ some (some (W.o ys))) (h2 : HS c G' σ H' (ds.set i (some (.d d))) p1) (e : Ex (orP P G) G') (hk : (∃ n, Pk n p1) ∨ c.pool = none) :
    HS (c.pinP P) G σ H' ds p1 := by
  have dj : ∀ a o, G a = some o → P a = none := fun a o q => by
    cases z : P a with
    | none => rfl
    | some u => rw [h.gn a u (pinP_at z)] at q; cases q
  have s2 : Ex G (orP P G) := orP_r dj
  refine ⟨(s2.trans e).trans h2.sub, h.gh, h.gq, h.gn, h2.keep, fun p z => ?_, fun a o q => ?_, h2.hid, h.len, fun j w q => ?_, h.own⟩
  · obtain ⟨b1, b2, vs, b3, b4⟩ := h2.pl p z
    rcases hk with ⟨n, hk⟩ | hk
    · exact ⟨b1, (h.pl p z).2.1, vs, b3, ra_flat hk b4⟩
    · have z' : c.pool = some p := z
      rw [hk] at z'; cases z'
  · rcases pinP_or q with q | ⟨_, q⟩
    · exact h2.sub _ _ (e _ _ (orP_l a o q))
    · exact h2.pin a o q
  · obtain ⟨v, d1, d2⟩ := h.slots j w q
    refine ⟨v, d1, ?_⟩
    cases w with
    | d x => exact d2
    | v x => exact d2
    | o ys => exact absurd q (no j ys)
theorem wt_pin {P : Hp} {i : Nat} {v : V} {Ψ : Bool → List D → Prop} (d : D) (F : Fresh c P) (hi : ds[i]? = some (some (.v v))) (r : R P v d) (no : ∀ (j : Nat) (ys : List D), ds[j]? ≠ some (some (W.o ys))) (h : WT c tt (ds.set i (some (.d d))) pl fun b p1 => ((∃ n, Pk n p1) ∨ c.pool = none) ∧ Ψ b p1) : WT (c.pinP P) tt ds pl Ψ := fun G σ H hs Q q => by
  obtain ⟨s2, hs2⟩ := hs.lendP F hi r no
  refine h _ σ H hs2 _ fun b G' H' p1 h1 e1 ⟨g1, g2⟩ => ?_
  exact q b G H' p1 (hs.lentP F no h1 e1 g1) (Ex.refl _) g2
/-! ### an owned list lent to a test -/
end
end PD

/-! PD19: moves of one direction, joined moves (mathematics) -/
namespace PD
open PySem PySem.Spec PyProof.Rows L2 Evl
theorem flo_uniq {c : Comb} (ok : c.Ok) {n b : Int} (h : IsBelow c n b) : flo c n = b := (flo_spec ok n).uniq h
theorem flo_le {c : Comb} (ok : c.Ok) (n : Int) : flo c n ≤ n := (flo_spec ok n).1
theorem flo_between {c : Comb} (ok : c.Ok) {n m : Int} (h1 : flo c n ≤ m) (h2 : m ≤ n) : flo c m = flo c n := by
  obtain ⟨a1, a2, a3⟩ := flo_spec ok n
  exact flo_uniq ok ⟨h1, a2, fun x x1 x2 => a3 x x1 (by omega)⟩
theorem flo_flo {c : Comb} (ok : c.Ok) (n : Int) : flo c (flo c n) = flo c n := flo_between ok (Int.le_refl _) (flo_le ok n)
theorem mv_up {v : Dv} {s : Sv} {m : Int} (h : 0 < m) : mv v s m = (s.2 + m + max (s.1 - s.2 - m) (flo v.2 (s.1 - s.2)), s.2 + m) := if_pos h
theorem mv_down {v : Dv} {s : Sv} {m : Int} (h : ¬ 0 < m) : mv v s m = (max (s.1 + m) (flo v.1 s.1), s.2 + m) := if_neg h
def absS (ms : List Int) : Nat := (ms.map Int.natAbs).sum
end PD

/-! PD20: slots without owned lists, by computing -/
namespace PD
open PySem PySem.Spec PyProof.Rows L2 Evl
def noOs : DS → Bool
  | [] => true
  | some (.o _) :: _ => false
  | _ :: r => noOs r
theorem no_of : ∀ {ds : DS}, noOs ds = true → ∀ (j : Nat) (ys : List D), ds[j]? ≠ some (some (W.o ys))
  | [], _, j, ys => by simp
  | none :: r, h, 0, ys => by simp
  | none :: r, h, j + 1, ys => by rw [List.getElem?_cons_succ]; exact no_of (ds := r) h j ys
  | some (.d x) :: r, h, 0, ys => by simp
  | some (.d x) :: r, h, j + 1, ys => by rw [List.getElem?_cons_succ]; exact no_of (ds := r) h j ys
  | some (.v x) :: r, h, 0, ys => by simp
  | some (.v x) :: r, h, j + 1, ys => by rw [List.getElem?_cons_succ]; exact no_of (ds := r) h j ys
  | some (.o x) :: r, h, _, ys => by cases h
/-! ### mirrors -/
def mirS (s : Sv) : Sv := (s.1 - s.2, -s.2)
end PD

/-! PD21: slacks, moves done several times, cycles (mathematics) -/
namespace PD
open PySem PySem.Spec PyProof.Rows L2 Evl
def slk (c : Comb) (n : Int) : Int := n - flo c n
def sl (c : Comb) : List Int := (List.range c.p.toNat).map fun (r : Nat) => slk c (r : Int)
theorem flo_shift {c : Comb} (ok : c.Ok) (n k : Int) : flo c (n + c.p * k) = flo c n + c.p * k := by
  have hp : c.p ≠ 0 := by have := ok.p1; omega
  have e : (n + c.p * k) % c.p = n % c.p := Int.add_mul_emod_self_left ..
  unfold flo
  rw [e]
  split <;> omega
theorem slk_shift {c : Comb} (ok : c.Ok) (n k : Int) : slk c (n + c.p * k) = slk c n := by
  unfold slk
  rw [flo_shift ok]
  omega
theorem slk_mod {c : Comb} (ok : c.Ok) (n : Int) : slk c (n % c.p) = slk c n := by
  have e : n = n % c.p + c.p * (n / c.p) := (Int.emod_add_mul_ediv n c.p).symm
  conv => rhs; rw [e]
  rw [slk_shift ok]
theorem slk_nn {c : Comb} (ok : c.Ok) (n : Int) : 0 ≤ slk c n := by
  have := flo_le ok n
  unfold slk; omega
theorem sl_len {c : Comb} (ok : c.Ok) : ((sl c).length : Int) = c.p := by
  have := ok.p1
  unfold sl
  rw [List.length_map, List.length_range]
  omega
theorem sl_at {c : Comb} (ok : c.Ok) (n : Int) : atI ((sl c).map PyData.int) (n % c.p) = some (.int (slk c n)) := by
  have p1 := ok.p1
  have r0 := Int.emod_nonneg n (show c.p ≠ 0 by omega)
  have r1 := Int.emod_lt_of_pos n (show 0 < c.p by omega)
  have e : n % c.p = (((n % c.p).toNat : Nat) : Int) := by omega
  rw [e]
  refine atI_nat ?_
  unfold sl
  rw [List.map_map, List.getElem?_map, List.getElem?_range (by omega)]
  show some (PyData.int (slk c (((n % c.p).toNat : Nat) : Int))) = _
  rw [← e, slk_mod ok]
abbrev lf (s : Sv) : Int := s.1 - s.2
theorem mv_up' {v : Dv} {s : Sv} {m : Int} (h : 0 < m) : mv v s m = (s.1 + m - min m (slk v.2 (lf s)), s.2 + m) := by
  rw [mv_up h]
  unfold slk lf
  ext
  · show s.2 + m + max (s.1 - s.2 - m) (flo v.2 (s.1 - s.2)) = s.1 + m - min m (s.1 - s.2 - flo v.2 (s.1 - s.2)); omega
  · rfl
theorem mv_down' {v : Dv} {s : Sv} {m : Int} (h : ¬ 0 < m) : mv v s m = (s.1 - min (-m) (slk v.1 s.1), s.2 + m) := by
  rw [mv_down h]
  unfold slk
  ext
  · show max (s.1 + m) (flo v.1 s.1) = s.1 - min (-m) (s.1 - flo v.1 s.1); omega
  · rfl
def rp (v : Dv) (ms : List Int) (s : Sv) : Nat → Sv
  | 0 => s
  | k + 1 => mvs v (rp v ms s k) ms
def plc (v : Dv) (s : Sv) : Int × Int := (s.1 % v.1.p, lf s % v.2.p)
theorem mod_eq_shift {p a b : Int} (h : a % p = b % p) : ∃ k, b = a + p * k :=
  ⟨b / p - a / p, by
    have e1 := Int.emod_add_mul_ediv a p
    have e2 := Int.emod_add_mul_ediv b p
    rw [Int.mul_sub]
    omega⟩
theorem mv_shift {v : Dv} (ok : v.Ok) {s t : Sv} (h : plc v s = plc v t) (m : Int) : mv v t m = ((mv v s m).1 + (t.1 - s.1), (mv v s m).2 + (t.2 - s.2)) := by
  obtain ⟨k1, e1⟩ := mod_eq_shift (congrArg Prod.fst h)
  obtain ⟨k2, e2⟩ := mod_eq_shift (congrArg Prod.snd h)
  have f1 : slk v.1 t.1 = slk v.1 s.1 := by
    have e1' : t.1 = s.1 + v.1.p * k1 := e1
    rw [e1', slk_shift ok.1]
  have f2 : slk v.2 (lf t) = slk v.2 (lf s) := by
    have e2' : lf t = lf s + v.2.p * k2 := e2
    rw [e2', slk_shift ok.2]
  by_cases z : 0 < m
  · rw [mv_up' z, mv_up' z, f2]
    ext
    · show t.1 + m - min m (slk v.2 (lf s)) = s.1 + m - min m (slk v.2 (lf s)) + (t.1 - s.1); omega
    · show t.2 + m = s.2 + m + (t.2 - s.2); omega
  · rw [mv_down' z, mv_down' z, f1]
    ext
    · show t.1 - min (-m) (slk v.1 s.1) = s.1 - min (-m) (slk v.1 s.1) + (t.1 - s.1); omega
    · show t.2 + m = s.2 + m + (t.2 - s.2); omega
theorem plc_shift {v : Dv} {s t s' t' : Sv} (h : plc v s = plc v t) (e : t' = (s'.1 + (t.1 - s.1), s'.2 + (t.2 - s.2))) : plc v s' = plc v t' := by
  obtain ⟨k1, e1⟩ := mod_eq_shift (congrArg Prod.fst h)
  obtain ⟨k2, e2⟩ := mod_eq_shift (congrArg Prod.snd h)
  have e1' : t.1 = s.1 + v.1.p * k1 := e1
  have e2' : lf t = lf s + v.2.p * k2 := e2
  subst e
  unfold plc
  have a1 : s'.1 + (t.1 - s.1) = s'.1 + v.1.p * k1 := by omega
  have a2 : lf (s'.1 + (t.1 - s.1), s'.2 + (t.2 - s.2)) = lf s' + v.2.p * k2 := by
    show s'.1 + (t.1 - s.1) - (s'.2 + (t.2 - s.2)) = s'.1 - s'.2 + v.2.p * k2
    unfold lf at e2'
    omega
  show (s'.1 % v.1.p, lf s' % v.2.p) = ((s'.1 + (t.1 - s.1)) % v.1.p, lf (s'.1 + (t.1 - s.1), s'.2 + (t.2 - s.2)) % v.2.p)
  rw [a2, a1, Int.add_mul_emod_self_left, Int.add_mul_emod_self_left]
theorem mv_hand (v : Dv) (s : Sv) (m : Int) : (mv v s m).2 = s.2 + m := by
  unfold mv; split <;> rfl
structure Cyc (v : Dv) (ms : List Int) (s : Sv) (n j : Nat) : Prop where
  lt : j < n
  eq : plc v (rp v ms s j) = plc v (rp v ms s n)
  inj : ∀ i k, i < k → k < n → plc v (rp v ms s i) ≠ plc v (rp v ms s k)
end PD

/-! PD22: a dict of places; sums, divmod -/
namespace PD
open PySem PySem.Spec PyProof.Rows L2 Evl
def one (p : Addr) (o : HO) : Hp := fun a => if a = p then some o else none
theorem one_at {p : Addr} {o : HO} : one p o p = some o := if_pos rfl
theorem one_some {p a : Addr} {o u : HO} (h : one p o a = some u) : a = p ∧ u = o := by
  unfold one at h
  by_cases e : a = p
  · rw [if_pos e] at h; exact ⟨e, (Option.some.inj h).symm⟩
  · rw [if_neg e] at h; cases h
section
variable {c : Cn} {K : PySem.W.Frag} {ds : DS} {pl : List D} {t u body : TS} {D' : Ends} {G0 : Hp} {E : EE} {Φ : W → List D → Prop} {te : TE} {tr : TA}
abbrev pk2 (a b : Int) : List Key := [.inl a, .inl b]
theorem cb_sum {ns : List Int} (h : Φ (.d (.int ns.sum)) pl) : CbS c (rSum K) ds [.list (ns.map PyData.int)] pl Φ := fun G σ H vs hs f Q q => by
  obtain ⟨v, rfl, a⟩ := ra1 f
  cases a with
  | lst a b =>
    have eb := b.ints
    subst eb
    exact ⟨_, ns, rfl, SqL.of (hs.sub _ _ a), q _ G H (.d _) pl hs (Ex.refl _) (R.int _) h⟩
end
end PD

/-! PD23: heights one behind the other, as data -/
namespace PD
open PySem PySem.Spec PyProof.Rows L2 Evl
abbrev slD (v : Dv) : D := .tuple [.list ((sl v.1).map PyData.int), .list ((sl v.2).map PyData.int)]
def hts (v : Dv) (ms : List Int) (s : Sv) (n : Nat) : List Int := (List.range n).map fun k => (rp v ms s k).1
theorem mod_len {c : Comb} (ok : c.Ok) (x : Int) : x % ((((sl c).map PyData.int).length : Nat) : Int) = x % c.p := by rw [List.length_map, sl_len ok]
theorem len_pos {c : Comb} (ok : c.Ok) : (0 : Int) < ((((sl c).map PyData.int).length : Nat) : Int) := by rw [List.length_map, sl_len ok]; have := ok.p1; omega
def Seen (v : Dv) (ms : List Int) (s : Sv) (k : Nat) (kvs : List (List Key × V)) : Prop := ∀ a b r, valV kvs (pk2 a b) = some r ↔ ∃ i, i < k ∧ plc v (rp v ms s i) = (a, b) ∧ r = .int (i : Int)
@[irreducible] def BB : Nat := 2 ^ 3000
end PD

/-! PD24: comprehensions that map; mirrors of trails, of joined moves, of cycles -/
namespace PD
open PySem PySem.Spec PyProof.Rows L2 Evl
section
variable {c : Cn} {K : PySem.W.Frag} {ds : DS} {pl : List D} {Φ : W → List D → Prop} {te tl : TE}
theorem we_lcM {A : Type} {j : Nat} (as : List A) (enc f : A → D) (hl : as.length < sizeLine) (hj : ∀ (xs : List D), ds[j]? ≠ some (some (W.o xs)))
    (h : WE c tl ds pl (isD fun d p1 => d = .list (as.map enc) ∧ Φ (.d (.list (as.map f))) p1))
    (step : ∀ p1 a, a ∈ as → ∀ pin, WE { c with pin := pin } te ((wipeD ds [j]).set j (some (.d (enc a)))) p1 (isD fun y p2 => y = f a ∧ p2 = p1)) : WE c (tLc (iList K tl) (gName j) tYes te [j]) ds pl Φ := by
  refine we_lcL (fun i acc p => acc = (as.take i).map f ∧ Φ (.d (.list (as.map f))) p) (as.map enc) hj ?_ ?_ ?_
  · refine h.mono fun w p1 q => ?_
    cases w with
    | d x => exact ⟨q.1, rfl, q.2⟩
    | v x => exact q
    | o x => exact q
  · rintro i x acc p hx ⟨rfl, q⟩ pin
    rw [List.getElem?_map] at hx
    cases ha : as[i]? with
    | none => rw [ha] at hx; cases hx
    | some a =>
      rw [ha] at hx
      cases hx
      refine wt_yes ?_
      rw [if_pos rfl]
      refine (step p a (List.mem_of_getElem? ha) pin).mono fun w p2 q2 => ?_
      have hi := (List.getElem?_eq_some_iff.mp ha).1
      cases w with
      | d x =>
        obtain ⟨rfl, rfl⟩ := q2
        refine ⟨?_, ?_, q⟩
        · rw [List.length_map, List.length_take]; omega
        · rw [List.take_add_one, ha, List.map_append]; rfl
      | v x => exact q2
      | o x => exact q2
  · rintro acc p ⟨rfl, q⟩
    rw [List.length_map, List.take_length]
    exact q
end
/-! ### mirrors -/
end PD

/-! PD25: parted moves, moves joined twice, moves one time behind the other (mathematics) -/
namespace PD
open PySem PySem.Spec PyProof.Rows L2 Evl
def repM (ms : List Int) (k : Nat) : List Int := (List.replicate k ms).flatten
section
variable {c : Cn} {K : PySem.W.Frag} {ds : DS} {pl : List D} {Φ : W → List D → Prop} {E : EE} {t : TS} {tr : TA}
end
section
variable {c : Cn} {K : PySem.W.Frag} {ds : DS} {pl : List D} {Φ : W → List D → Prop} {E : EE} {t u : TS} {tr : TA} {ta tb : TE} {tt : TT} {Ek : XK}
end
end PD

/-! PD26: three names at once; an owned list lent to a call whose answer is dropped -/
namespace PD
open PySem PySem.Spec PyProof.Rows L2 Evl
section
variable {c : Cn} {K : PySem.W.Frag} {ds : DS} {pl : List D} {t u : TS} {D' : Ends} {G0 : Hp} {E : EE} {Φ : W → List D → Prop} {te : TE} {tr : TA}
end
end PD

/-! PD27: a and b that meet; a last move that brings the hand back; written devices -/
namespace PD
open PySem PySem.Spec PyProof.Rows L2 Evl
section
variable {c : Cn} {K : PySem.W.Frag} {ds : DS} {pl : List D} {Φ : W → List D → Prop} {ta tb : TE} {tr : TA} {Ek : XK}
end
abbrev c3 : Comb := ⟨3, [0]⟩
abbrev c5 : Comb := ⟨5, [0]⟩
abbrev c10 : Comb := ⟨10, [0]⟩
abbrev c103 : Comb := ⟨10, [0, 3]⟩
end PD

/-! PD28: comprehensions over enumerate, over pairs; in and index of data of any depth; lists begun with items -/
namespace PD
open PySem PySem.Spec PyProof.Rows L2 Evl
section
variable {c : Cn} {K : PySem.W.Frag} {ds : DS} {pl : List D} {Φ : W → List D → Prop} {te tl : TE} {tr : TA} {tt : TT} {σ : L2.St} {E : EE} {t : TS}
end
end PD

/-! PD29: starts that come again, in a list of starts (mathematics) -/
namespace PD
open PySem PySem.Spec PyProof.Rows L2 Evl
abbrev ptD (a : Int × Int) : D := .tuple [.int a.1, .int a.2]
section
variable (v : Dv) (ms : List Int) (s : Sv)
def sts (n : Nat) : List D := (List.range n).map fun i => ptD (plc v (rp v ms s i))
def seenB (i : Nat) : Bool := (sts v ms s i).any fun z => PyData.eqv z (ptD (plc v (rp v ms s i)))
variable {v ms s}
end
def rows (v : Dv) (ms : List Int) (s : Sv) (n : Nat) : List D := (List.range n).map fun i => Sv.d (rp v ms s i)
end PD

/-! PD30: cycles of written devices -/
namespace PD
open PySem PySem.Spec PyProof.Rows L2 Evl
end PD

/-! PD31: ranges with two ends, zip in a for, index, sorted; bars in their order (mathematics) -/
namespace PD
open PySem PySem.Spec PyProof.Rows L2 Evl
section
variable {c : Cn} {K : PySem.W.Frag} {ds : DS} {pl : List D} {Φ : W → List D → Prop} {te tl tb : TE} {tr : TA} {tt : TT} {σ : L2.St} {E : EE} {t : TS}
theorem cb_sortedI {ns : List Int} (h : ∀ ns' : List Int, ns'.Perm ns → ns'.Pairwise (· ≤ ·) → Φ (.d (.list (ns'.map PyData.int))) pl) : CbS c (rSortedI K) ds [.list (ns.map PyData.int)] pl Φ := fun G σ H vs hs f Q q => by
  obtain ⟨v, rfl, a⟩ := ra1 f
  cases a with
  | lst a b =>
    have eb := b.ints
    subst eb
    refine ⟨_, ns, rfl, SqL.of (hs.sub _ _ a), fun ns' p pm ps hp => ?_⟩
    have n := hs.none_of hp
    exact q _ _ _ (.d _) pl (hs.newD hp) (Ex.new n.1) (show R _ (.ref p) (.list (ns'.map PyData.int)) from .lst upd_same (RA.of_ints _)) (h ns' pm ps)
end
theorem slk_lt {c : Comb} (ok : c.Ok) (n : Int) : slk c n < c.p := by
  obtain ⟨a1, a2, a3⟩ := flo_spec ok n
  by_cases h : flo c n + c.p ≤ n
  · have h2 := a3 (flo c n + c.p) (by have := ok.p1; omega) h
    have e : caught c (flo c n + c.p) = caught c (flo c n) := by unfold caught; rw [Int.add_emod_right]
    rw [e, a2] at h2
    cases h2
  · unfold slk; omega
structure Com (v : Dv) (L : Int) : Prop where
  pos : 0 < L
  d1 : L % v.1.p = 0
  d2 : L % v.2.p = 0
  le : L ≤ 576
structure Row (L : Int) (f : Int → Int) : Prop where
  mono : ∀ a b, a ≤ b → f a ≤ f b
  per : ∀ a k, f (a + L * k) = f a + L * k
end PD

/-! PD32: is None, min and max of a list; first times (mathematics) -/
namespace PD
open PySem PySem.Spec PyProof.Rows L2 Evl
def nonB : D → Bool
  | .none => true
  | _ => false
section
variable {c : Cn} {K : PySem.W.Frag} {ds : DS} {pl : List D} {Φ : W → List D → Prop}
theorem os_isN {d : D} {p2 : List D} (h : Φ (.d (.bool (nonB d))) p2) : OpS c (fun x y H Q => y = .non ∧ Q (.bl (decide (x = .non))) H) ds d .none p2 Φ := fun G σ H v u hs hv hu Q q => by
  have e : u = .non := by
    rcases hu with hu | ⟨p, vs, xs, rfl, e, _⟩
    · cases hu; rfl
    · cases e
  have e2 : decide (v = .non) = nonB d := by
    rcases hv with hv | ⟨p, vs, xs, rfl, rfl, _⟩
    · cases hv <;> rfl
    · rfl
  refine ⟨e, ?_⟩
  rw [e2]
  exact q _ G H (.d _) p2 hs (Ex.refl _) (R.bl _) h
end
section
variable (v : Dv) (ms : List Int) (s : Sv)
def Fst (h : Int) : Option Nat → Prop
  | some k => h ≤ (rp v ms s k).1 ∧ ∀ i, i < k → (rp v ms s i).1 < h
  | none => ∀ i, (rp v ms s i).1 < h
def oD : Option Nat → D
  | some k => .int (k : Int)
  | none => .none
variable {v ms s}
def need (x h r : Int) : Int := -((x - h) / r)
end
end PD

/-! PD33: a < b <= c; cycles by the pitches, bounds of first times, first times told -/
namespace PD
open PySem PySem.Spec PyProof.Rows L2 Evl
section
variable {v : Dv} {ms : List Int} {s : Sv}
end
end PD

/-! PD34: xs, y = [e], b -/
namespace PD
open PySem PySem.Spec PyProof.Rows L2 Evl
section
variable {c : Cn} {K : PySem.W.Frag} {ds : DS} {pl : List D} {te : TE} {E : EE}
end
end PD

/-! PD35: gcd; the mean rise of moves at a hand (mathematics) -/
namespace PD
open PySem PySem.Spec PyProof.Rows L2 Evl
section
variable {c : Cn} {K : PySem.W.Frag} {ds : DS} {pl : List D} {Φ : W → List D → Prop}
end
section
variable {v : Dv} {ms : List Int} {hand : Int}
structure Mean (v : Dv) (ms : List Int) (hand t b : Int) : Prop where
  t0 : 0 ≤ t
  b0 : 0 < b
  b5 : b ≤ 576
  low : Nat.gcd t.natAbs b.natAbs = 1
  eq : ∀ (a : Int) (n j : Nat), Cyc v ms (a, hand) n j → t * ((n - j : Nat) : Int) = b * ((rp v ms (a, hand) n).1 - (rp v ms (a, hand) j).1)
end
end PD

/-! PD36: a, b, c = e; slices of tuples; later states of a cycle -/
namespace PD
open PySem PySem.Spec PyProof.Rows L2 Evl
section
variable {c : Cn} {K : PySem.W.Frag} {ds : DS} {pl : List D} {Φ : W → List D → Prop} {te ta : TE} {E : EE}
end
section
variable {v : Dv} {ms : List Int} {s : Sv}
end
def c24 : Comb := ⟨24, [0]⟩
def c23 : Comb := ⟨23, [0]⟩
end PD

/-! PD37: found.append(left.pop(k)); left, found = list(range(n)), [] -/
namespace PD
open PySem PySem.Spec PyProof.Rows L2 Evl
theorem seqIx_nat {n l : Nat} (h : n < l) : seqIndex? (n : Int) l = some n := by
  unfold seqIndex?
  simp
  omega
section
variable {c : Cn} {K : PySem.W.Frag} {ds : DS} {pl : List D} {Φ : W → List D → Prop} {te ta : TE} {E : EE}
theorem ws_appPop {i j : Nat} {xs ys : List D} (hi : ds[i]? = some (some (.o xs))) (hj : ds[j]? = some (some (.o ys))) (hij : i ≠ j)
    (h : WE c te ds pl (isI fun k p1 => ∃ (n : Nat) (y : D), k = (n : Int) ∧ n < 100000 ∧ ys[n]? = some y ∧ xs.length < sizeLine ∧ E.nx ((ds.set j (some (.o (ys.eraseIdx n)))).set i (some (.o (xs ++ [y])))) p1)) :
    WS c (tDrop (tBM K "list" rAppend (tVar i) (tCons (tBM K "list" rPopAt (tVar j) (tCons te tNil)) tNil))) ds pl E := fun G σ H hs D' f => by
  obtain ⟨v, e1, p, vs, rfl, b1, b2⟩ := hs.slots i _ hi
  obtain ⟨v2, d1, p2, vs2, rfl, b3, b4⟩ := hs.slots j _ hj
  refine ⟨_, e1, Or.inl ⟨rfl, _, SqL.of b1⟩, ?_⟩
  refine ⟨_, d1, Or.inl ⟨rfl, _, SqL.of b3⟩, ?_⟩
  refine h G σ H hs _ fun v G1 H1 w p1 h1 e2 f1 g1 => ?_
  match w, f1, g1 with
  | .d (.int k), f1, ⟨n, y, ek, hn, hy, hl, g2⟩ =>
    subst ek
    cases f1
    obtain ⟨v', e1', p', vs', rfl, c1, c2, _⟩ := h1.slots i _ hi
    have ep : p' = p := by rw [e1] at e1'; exact (V.ref.inj (Option.some.inj (Option.some.inj e1'))).symm
    subst ep
    obtain ⟨v3, d1', p3, vs3, rfl, c3, c4, _⟩ := h1.slots j _ hj
    have ep2 : p3 = p2 := by rw [d1] at d1'; exact (V.ref.inj (Option.some.inj (Option.some.inj d1'))).symm
    subst ep2
    have hlt : n < ys.length := (List.getElem?_eq_some_iff.mp hy).1
    have hlt2 : n < vs3.length := by rw [c4.len]; exact hlt
    obtain ⟨yd, hyd, hr⟩ := c4.get' (List.getElem?_eq_getElem hlt2)
    rw [hy] at hyd
    cases hyd
    refine ⟨p3, vs3, (n : Int), n, vs3[n], rfl, rfl, c3, by omega, by omega, seqIx_nat hlt2, List.getElem?_eq_getElem hlt2, ?_⟩
    have h2 := h1.chg hj d1 (c4.erase n)
    have hi2 : (ds.set j (some (.o (ys.eraseIdx n))))[i]? = some (some (.o xs)) := by rw [List.getElem?_set_ne (Ne.symm hij)]; exact hi
    obtain ⟨v4, e4, p4, vs4, rfl, c5, c6, _⟩ := h2.slots i _ hi2
    have ep4 : p4 = p' := by rw [e1] at e4; exact (V.ref.inj (Option.some.inj (Option.some.inj e4))).symm
    subst ep4
    refine ⟨p4, vs4, vs3[n], rfl, rfl, c5, by rw [c6.len]; exact hl, ?_⟩
    exact f.nx G1 σ _ _ p1 (h2.chg hi2 e1 (c6.app (.cons hr .nil))) e2 g2
theorem ws_parLR {i j : Nat} (h : WE c ta ds pl (isI fun k p1 => ∃ n : Nat, k = (n : Int) ∧ n ≤ 100000 ∧ E.nx ((ds.set i (some (.o (((List.range n).map fun (i : Nat) => (i : Int)).map PyData.int)))).set j (some (.o []))) p1)) :
    WS c (tPar i j (tCons (tLstRg (tRg1 ta)) (tCons (tLst tNil) tNil))) ds pl E := fun G σ H hs D' f =>
  h G σ H hs _ fun v G1 H1 w p1 h1 e1 f1 g1 => by
    match w, f1, g1 with
    | .d (.int k), f1, ⟨n, ek, hn, g1⟩ =>
      subst ek
      cases f1
      refine ⟨n, rfl, RgOk.of_le (by omega) (by omega) (by omega) (by omega), fun l hl => ?_⟩
      refine ⟨Nat.zero_le _, fun p hp => ⟨_, _, rfl, ?_⟩⟩
      rw [rgV_ints] at hp ⊢
      exact f.nx G1 _ _ _ p1 ((h1.newO hl (RA.of_ints _) i).newO hp .nil j) e1 g1
end
end PD

/-! PD38: erased items (mathematics); cycles within the remainders of bars (mathematics) -/
namespace PD
open PySem PySem.Spec PyProof.Rows L2 Evl
theorem erase_map {A B : Type} (f : A → B) : ∀ (l : List A) (n : Nat), (l.map f).eraseIdx n = (l.eraseIdx n).map f
  | [], _ => rfl
  | _ :: _, 0 => rfl
  | a :: r, n + 1 => by
    show f a :: (r.map f).eraseIdx n = f a :: (r.eraseIdx n).map f
    rw [erase_map f r n]
theorem erase_perm {A : Type} : ∀ {l : List A} {n : Nat} (h : n < l.length), (l[n] :: l.eraseIdx n).Perm l
  | a :: r, 0, _ => .refl _
  | a :: r, n + 1, h => by
    have h' : n < r.length := Nat.lt_of_succ_lt_succ h
    show (r[n] :: a :: r.eraseIdx n).Perm (a :: r)
    exact (List.Perm.swap a r[n] _).trans ((erase_perm h').cons a)
section
variable {v : Dv} {ms : List Int} {x arm : Int}
end
end PD

/-! PD39: comprehensions over a range that is met; cycles are there; one mean alone -/
namespace PD
open PySem PySem.Spec PyProof.Rows L2 Evl
section
variable {c : Cn} {K : PySem.W.Frag} {ds : DS} {pl : List D} {Φ : W → List D → Prop} {te : TE} {tt : TT} {tr : TA}
end
section
variable {v : Dv} {ms : List Int} {s : Sv} {arm : Int}
end
end PD

/-! PD40: in a tuple of numbers; means told -/
namespace PD
open PySem PySem.Spec PyProof.Rows L2 Evl
section
variable {c : Cn} {K : PySem.W.Frag} {ds : DS} {pl : List D} {Φ : W → List D → Prop}
end
end PD

/-! PD41: means at hands a common pitch away; pumps of greater spans (mathematics) -/
namespace PD
open PySem PySem.Spec PyProof.Rows L2 Evl
section
variable {v : Dv} {ms : List Int} {arm : Int}
end
def w24 : Comb := ⟨24, [0, 5]⟩
def w23 : Comb := ⟨23, [1, 9, 20]⟩
end PD

/-! PD42: a bound of means -/
namespace PD
open PySem PySem.Spec PyProof.Rows L2 Evl
end PD

/-! PD43: pumps of greater spans never raise less (mathematics) -/
namespace PD
open PySem PySem.Spec PyProof.Rows L2 Evl
theorem flo_of {c : Comb} (ok : c.Ok) {a : Int} (h : caught c a = true) : flo c a = a := by
  obtain ⟨a1, a2, a3⟩ := flo_spec ok a
  by_cases y : flo c a < a
  · have := a3 a y (Int.le_refl _)
    rw [h] at this; cases this
  · omega
section
variable {v : Dv} {arm : Int}
end
end PD

/-! PD44: a pump raises by no more than its span, and by no less than it without the longest slacks (mathematics) -/
namespace PD
open PySem PySem.Spec PyProof.Rows L2 Evl
section
variable {v : Dv} {arm : Int}
end
end PD

/-! PD45: a mean above 0 is 1 at least (mathematics) -/
namespace PD
open PySem PySem.Spec PyProof.Rows L2 Evl
section
variable {v : Dv} {ms : List Int} {arm : Int}
end
end PD

/-! PD46: a dict of numbers; a new list beside a value -/
namespace PD
open PySem PySem.Spec PyProof.Rows L2 Evl
inductive RK (G : Hp) : List (Key × V) → List (Int × D) → Prop
  | nil : RK G [] []
  | cons {k : Int} {v : V} {d : D} {vs : List (Key × V)} {ks : List (Int × D)} (a : R G v d) (b : RK G vs ks) : RK G ((.inl k, v) :: vs) ((k, d) :: ks)
theorem RK.len {G : Hp} {vs : List (Key × V)} {ks : List (Int × D)} (h : RK G vs ks) : vs.length = ks.length := by
  induction h with
  | nil => rfl
  | cons a b ih => rw [List.length_cons, List.length_cons, ih]
def look (ks : List (Int × D)) (k : Int) : Option D := (ks.find? fun kv => decide (kv.1 = k)).map (·.2)
def tab (n : Nat) (f : Nat → Int × D) : List (Int × D) := (List.range n).map f
section
variable {c : Cn} {K : PySem.W.Frag} {ds : DS} {pl : List D} {t u body : TS} {D' : Ends} {G0 : Hp} {E : EE} {Φ : W → List D → Prop} {te tk tv : TE} {tr : TA}
end
abbrev c01 : Comb := ⟨1, [0]⟩
end PD

/-! PD47: gaps, mirrored means, chains over what a call tells -/
namespace PD
open PySem PySem.Spec PyProof.Rows L2 Evl
end PD

/-! PD48: spans for fractions -/
namespace PD
open PySem PySem.Spec PyProof.Rows L2 Evl
end PD

/-! PD49: comprehensions over a tuple or a list that is met -/
namespace PD
open PySem PySem.Spec PyProof.Rows L2 Evl
section
variable {c : Cn} {K : PySem.W.Frag} {ds : DS} {pl : List D} {Φ : W → List D → Prop} {te : TE} {tt : TT} {tr : TA}
end
end PD

/-! PD50: math.lcm -/
namespace L2
open PySem PySem.Spec PyProof.Rows
section
variable {X : Cx}
def rLcm : List V → Hp → VK → Prop := fun vs H Q => ∃ a b : Int, vs = [.int a, .int b] ∧ a.natAbs < 2 ^ 64 ∧ b.natAbs < 2 ^ 64 ∧ Q (.int ((a.natAbs.lcm b.natAbs : Nat) : Int)) H
theorem cr_lcm : CallR X (.builtin "math.lcm") rLcm := by
  intro pins s σ H vs us Q I r h
  obtain ⟨a, b, rfl, ha, hb, q⟩ := h
  obtain ⟨t, u, rfl⟩ := Vals.int2 r
  exact PySem.W.mc_lcm ha hb fun _ => ⟨.int _, H, I.tok _, ⟨_, rfl⟩, q⟩
end
end L2
namespace PD
open PySem PySem.Spec PyProof.Rows L2 Evl
section
variable {c : Cn} {K : PySem.W.Frag} {ds : DS} {pl : List D} {Φ : W → List D → Prop}
theorem cb_lcm {a b : Int} (ha : a.natAbs < 2 ^ 64) (hb : b.natAbs < 2 ^ 64) (h : Φ (.d (.int ((Nat.lcm a.natAbs b.natAbs : Nat) : Int))) pl) : CbS c rLcm ds [.int a, .int b] pl Φ := fun G σ H vs hs f Q q => by
  obtain ⟨v, u, rfl, r1, r2⟩ := ra2 f
  cases r1
  cases r2
  exact ⟨a, b, rfl, ha, hb, q _ G H (.d _) pl hs (Ex.refl _) (R.int _) h⟩
end
end PD

/-! PD51: targets of any shape; a comprehension of two loops -/
namespace PD
open PySem PySem.Spec PyProof.Rows L2 Evl
def GA (c : Cn) (g : TG) (x : D) (u : DS → DS) : Prop := ∀ G σ H ds pl v, HS c G σ H ds pl → R G v x → ∀ Q : L2.St → Hp → Prop, (∀ σ', HS c G σ' H (u ds) pl → Q σ' H) → g v σ H Q
section
variable {c : Cn} {K : PySem.W.Frag} {ds : DS} {pl : List D} {t : TS} {E : EE} {Φ : W → List D → Prop} {te : TE} {tr tr1 : TA} {tt1 : TT}
end
/-! ### two loops -/
theorem wipe_comm {σ : L2.St} {j : Nat} {o : Option V} : ∀ {vs : List Nat}, j ∉ vs → L2.wipe (σ.set j o) vs = (L2.wipe σ vs).set j o
  | [], _ => rfl
  | v :: vs, h => by
    show (L2.wipe (σ.set j o) vs).set v none = ((L2.wipe σ vs).set v none).set j o
    rw [wipe_comm fun q => h (List.mem_cons_of_mem _ q), List.set_comm _ _ (fun e : j = v => h (e ▸ List.mem_cons_self))]
theorem wipe_in {σ : L2.St} {j : Nat} {o : Option V} : ∀ {vs : List Nat}, j ∈ vs → L2.wipe (σ.set j o) vs = L2.wipe σ vs
  | [], h => nomatch h
  | v :: vs, h => by
    show (L2.wipe (σ.set j o) vs).set v none = (L2.wipe σ vs).set v none
    by_cases e : j ∈ vs
    · rw [wipe_in e]
    · have ev : j = v := by
        rcases List.mem_cons.mp h with z | z
        · exact z
        · exact absurd z e
      rw [wipe_comm e, ev, List.set_set]
theorem wipe_sub {σ : L2.St} {vs : List Nat} : ∀ {ws : List Nat}, (∀ w ∈ ws, w ∈ vs) → L2.wipe (L2.wipe σ ws) vs = L2.wipe σ vs
  | [], _ => rfl
  | w :: ws, h => by
    show L2.wipe ((L2.wipe σ ws).set w none) vs = _
    rw [wipe_in (h w List.mem_cons_self), wipe_sub fun x hx => h x (List.mem_cons_of_mem _ hx)]
def Nod (ds : DS) : Prop := ∀ (j : Nat) (xs : List D), ds[j]? ≠ some (some (W.o xs))
theorem Nod.set {ds : DS} (h : Nod ds) (j : Nat) (x : D) : Nod (ds.set j (some (.d x))) := fun i xs q => by
  by_cases e : j = i
  · subst e
    have hlt := (List.getElem?_eq_some_iff.mp q).1
    rw [List.length_set] at hlt
    rw [List.getElem?_set_self hlt] at q
    cases q
  · rw [List.getElem?_set_ne e] at q
    exact h i xs q
theorem Nod.none {ds : DS} (h : Nod ds) (j : Nat) : Nod (ds.set j Option.none) := fun i xs q => by
  by_cases e : j = i
  · subst e
    have hlt := (List.getElem?_eq_some_iff.mp q).1
    rw [List.length_set] at hlt
    rw [List.getElem?_set_self hlt] at q
    cases q
  · rw [List.getElem?_set_ne e] at q
    exact h i xs q
theorem Nod.wipe {ds : DS} (h : Nod ds) : ∀ vs : List Nat, Nod (wipeD ds vs)
  | [] => h
  | v :: vs => (Nod.wipe h vs).none v
theorem Nod.df {c : Cn} {σ σ' : L2.St} {ds ds' : DS} {Dl : Addr} (h : Nod ds') (f : DF c σ ds Dl) : DF c σ' ds' Dl := ⟨f.h0, f.pin, f.pool, f.hd, fun i xs p q => absurd q (h i xs)⟩
section
variable {c : Cn} {K : PySem.W.Frag} {ds : DS} {pl : List D} {Φ : W → List D → Prop} {te : TE} {tr : TA} {tt1 : TT}
end
end PD

/-! PD52: bars that fit looks -/
namespace PD
open PySem PySem.Spec PyProof.Rows L2 Evl
section
variable {c : Cn} {K : PySem.W.Frag} {ds : DS} {pl : List D} {Φ : W → List D → Prop} {te : TE} {tt : TT} {j : Nat}
end
abbrev u2 (j1 j2 : Nat) : D → DS → DS := fun d ds => match d with
  | .tuple [x, y] => (ds.set j1 (some (.d x))).set j2 (some (.d y))
  | _ => ds
abbrev u3 (j1 j2 j3 : Nat) : D → DS → DS := fun d ds => match d with
  | .tuple [x, y, z] => ((ds.set j1 (some (.d x))).set j2 (some (.d y))).set j3 (some (.d z))
  | _ => ds
/-! ### starts -/
def rowL (v : Dv) (a : Nat) (n : Nat) : List (Int × Int) := ((List.range n).filter fun (l : Nat) => held v ((a : Int), (a : Int) - (l : Int))).map fun (l : Nat) => ((a : Int), (l : Int))
def startsN (v : Dv) (i : Nat) : List (Int × Int) := (List.range i).flatMap fun a => rowL v a v.2.p.toNat
abbrev startsL (v : Dv) : List (Int × Int) := startsN v v.1.p.toNat
theorem slk_zero {c : Comb} (ok : c.Ok) (n : Int) : decide (slk c n = 0) = caught c n := by
  have sp := flo_spec ok n
  cases h : caught c n with
  | true =>
    have := flo_of ok h
    exact decide_eq_true (by unfold slk; omega)
  | false =>
    refine decide_eq_false fun z => ?_
    unfold slk at z
    have e : flo c n = n := by omega
    have := sp.2.1
    rw [e, h] at this
    cases this
/-! ### notes -/
def runN (v : Dv) : Sv → List (Int × Int) → Option Sv
  | s, [] => some s
  | s, q :: r => if (mv v s q.1).1 - s.1 = q.2 then runN v (mv v s q.1) r else none
abbrev Bar := (Int × Int) × Sv
def barD (b : Bar) : D := .tuple [Sv.d b.1, .int b.2.1, .int (lf b.2)]
def begun (st : Int × Int) : Bar := (st, (st.1, st.1 - st.2))
def seenL (v : Dv) (bs : List Bar) (q : Int × Int) : List Bar := (bs.filter fun b => decide ((mv v b.2 q.1).1 - b.2.1 = q.2)).map fun b => (b.1, mv v b.2 q.1)
def fitL (v : Dv) (ns : List (Int × Int)) : List Bar := ns.foldl (seenL v) ((startsL v).map begun)
end PD

/-! PD53: there are starts -/
namespace PD
open PySem PySem.Spec PyProof.Rows L2 Evl
end PD

/-! PD54: is not None; sizes of lists of pairs; places behind looks -/
namespace PD
open PySem PySem.Spec PyProof.Rows L2 Evl
section
variable {c : Cn} {K : PySem.W.Frag} {ds : DS} {pl : List D} {Φ : W → List D → Prop}
theorem os_notN {d : D} {p2 : List D} (h : Φ (.d (.bool (!nonB d))) p2) : OpS c (fun x y H Q => y = .non ∧ Q (.bl (!decide (x = .non))) H) ds d .none p2 Φ := fun G σ H v u hs hv hu Q q => by
  have e : u = .non := by
    rcases hu with hu | ⟨p, vs, xs, rfl, e, _⟩
    · cases hu; rfl
    · cases e
  have e2 : decide (v = .non) = nonB d := by
    rcases hv with hv | ⟨p, vs, xs, rfl, rfl, _⟩
    · cases hv <;> rfl
    · rfl
  refine ⟨e, ?_⟩
  rw [e2]
  exact q _ G H (.d _) p2 hs (Ex.refl _) (R.bl _) h
end
/-! ### places -/
def stepS (v : Dv) (ss : List Sv) (q : Int × Int) : List Sv := (ss.filter fun s => decide ((mv v s q.1).1 - s.1 = q.2)).map fun s => mv v s q.1
end PD

/-! PD55: == [] -/
namespace PD
open PySem PySem.Spec PyProof.Rows L2 Evl
section
variable {c : Cn} {K : PySem.W.Frag} {ds : DS} {pl : List D} {Φ : W → List D → Prop}
end
end PD

/-! PD56: rows of spans; joined tuples; the script compared; a pool made in a call -/
namespace PD
open PySem PySem.Spec PyProof.Rows L2 Evl
noncomputable def mOf (v : Dv) (arm z : Int) : Int × Int := by
  classical exact if h : ∃ q : Int × Int, Mean v [z, -z] arm q.1 q.2 then Classical.choose h else (0, 1)
noncomputable def rowsF (v : Dv) (arm : Int) : Nat → List (Int × Int × Int) × (Int × Int)
  | 0 => ([], (0, 1))
  | n + 1 => if mOf v arm ((n : Int) + 1) = (rowsF v arm n).2 then rowsF v arm n else ((rowsF v arm n).1 ++ [((n : Int) + 1, mOf v arm ((n : Int) + 1))], mOf v arm ((n : Int) + 1))
abbrev rowD (q : Int × Int × Int) : D := .tuple [.int q.1, .int q.2.1, .int q.2.2]
section
variable {c : Cn} {K : PySem.W.Frag} {ds : DS} {pl : List D} {Φ : W → List D → Prop} {ta tb te : TE} {tr : TA} {E : EE}
/-! ### the script compared -/
theorem ints_lay : ∀ ns : List Int, PyData.canLayAll0 (ns.map PyData.int) = true
  | [] => rfl
  | n :: ns => by
    rw [List.map_cons]
    show (PyData.canLay0 (.int n) && PyData.canLayAll0 (ns.map PyData.int)) = true
    rw [ints_lay ns]
    rfl
theorem ints_depth : ∀ ns : List Int, PyData.depthAll (ns.map PyData.int) = 0
  | [] => rfl
  | n :: ns => by
    rw [List.map_cons]
    show max (PyData.depth (.int n)) (PyData.depthAll (ns.map PyData.int)) = 0
    rw [ints_depth ns]
    rfl
theorem ints_shaped (ns : List Int) : SeqAt.shaped (.list (ns.map PyData.int)) = true := by
  unfold SeqAt.shaped
  have h1 : PyData.canLay0 (.list (ns.map PyData.int)) = true := by simpa only [PyData.canLay0] using ints_lay ns
  have h2 : PyData.depth (.list (ns.map PyData.int)) ≤ 64 := by
    simp only [PyData.depth, ints_depth]
    decide
  rw [h1, decide_eq_true h2]
  rfl
/-! ### f(mk(script, e), ..) -/
end
end PD

/-! PD57: how many spans have rows -/
namespace PD
open PySem PySem.Spec PyProof.Rows L2 Evl
def lcmV (v : Dv) : Int := ((Nat.lcm v.1.p.natAbs v.2.p.natAbs : Nat) : Int)
def spanN (v : Dv) : Nat := (lcmV v + max v.1.p v.2.p).toNat
end PD

/-! PD58: rows of two written devices -/
namespace PD
open PySem PySem.Spec PyProof.Rows L2 Evl
def rowsC (M : List (Int × Int)) : Nat → List (Int × Int × Int) × (Int × Int)
  | 0 => ([], (0, 1))
  | n + 1 => if M.getD n (0, 1) = (rowsC M n).2 then rowsC M n else ((rowsC M n).1 ++ [((n : Int) + 1, M.getD n (0, 1))], M.getD n (0, 1))
def cycB (v : Dv) (z : Int) (n j : Nat) (m : Int × Int) : Bool :=
  decide (j < n) && decide (plc v (rp v [z, -z] (0, 0) j) = plc v (rp v [z, -z] (0, 0) n)) && decide (∀ k, k < n → ∀ i, i < k → plc v (rp v [z, -z] (0, 0) i) ≠ plc v (rp v [z, -z] (0, 0) k)) &&
  decide ((rp v [z, -z] (0, 0) n).1 - (rp v [z, -z] (0, 0) j).1 = m.1 * (Nat.gcd ((rp v [z, -z] (0, 0) n).1 - (rp v [z, -z] (0, 0) j).1).natAbs ((n : Int) - (j : Int)).natAbs : Nat) ∧ (n : Int) - (j : Int) = m.2 * (Nat.gcd ((rp v [z, -z] (0, 0) n).1 - (rp v [z, -z] (0, 0) j).1).natAbs ((n : Int) - (j : Int)).natAbs : Nat))
abbrev c24x : Comb := ⟨24, [0, 7, 8]⟩
abbrev c23x : Comb := ⟨23, [5, 11]⟩
end PD

/-! PD59: two bars over one hand; places of three numbers in a dict -/
namespace PD
open PySem PySem.Spec PyProof.Rows L2 Evl
section
variable {v : Dv} {ms : List Int} {palm : Int}
def hx (v : Dv) (ms : List Int) (palm : Int) (x : Int) (i : Nat) : Int := (rp v ms (x, palm) i).1
def gp (v : Dv) (ms : List Int) (palm x y : Int) (i : Nat) : Int := hx v ms palm y i - hx v ms palm x i
def kyT (v : Dv) (ms : List Int) (palm x y : Int) (i : Nat) : Int × Int × Int := (hx v ms palm x i % v.1.p, (hx v ms palm x i - palm) % v.2.p, gp v ms palm x y i)
def JR (v : Dv) (ms : List Int) (palm x y : Int) (d : D) : Prop := (d = .none ∧ ∀ n, gp v ms palm x y n ≠ 0) ∨ ∃ n : Nat, d = .int (n : Int) ∧ n ≤ 332352 ∧ gp v ms palm x y n = 0 ∧ ∀ m, m < n → gp v ms palm x y m ≠ 0
end
/-! ### a dict of places -/
abbrev pk3 (q : Int × Int × Int) : List Key := [.inl q.1, .inl q.2.1, .inl q.2.2]
abbrev triD (q : Int × Int × Int) : D := .tuple [.int q.1, .int q.2.1, .int q.2.2]
def kv3 (qs : List (Int × Int × Int)) : List (List Key × V) := qs.map fun q => (pk3 q, V.bl true)
section
variable {c : Cn} {K : PySem.W.Frag} {ds : DS} {pl : List D} {t u body : TS} {D' : Ends} {G0 : Hp} {E : EE} {Φ : W → List D → Prop} {tt : TT}
end
end PD

/-! PD60: a stock (a pool with a greater number), the script cut, a list repeated -/
namespace PD
open PySem PySem.Spec PyProof.Rows L2 Evl
def Qk (n : Nat) (pl : List D) : Prop := ∃ a b c : Int, pl = [.int a, .int b, .int c] ∧ 0 ≤ a ∧ 0 ≤ b ∧ b < 2 ^ 130 ∧ 0 ≤ c ∧ c ≤ n
def poolQ {A : Type} (L : Nat) (enc : A → List D) (pre : A → Prop) (B : A → Nat) (post : A → D → Prop) : List D → List D → (D → List D → Prop) → Prop := fun pl ds k => ∃ (a : A) (n : Nat), ds = enc a ∧ pre a ∧ Qk n pl ∧ n < L ∧ ∀ d pl', post a d → Qk (n + B a) pl' → k d pl'
section
variable {c : Cn} {K : PySem.W.Frag} {ds : DS} {pl : List D} {Φ : W → List D → Prop} {tr : TA} {te ta tb : TE} {E : XK} {A : Type} {enc : A → List D} {pre : A → Prop} {B : A → Nat} {post : A → D → Prop} {L : Nat}
abbrev drawQ := poolQ 9000000 (fun t : Int => [.int t]) (fun t => 0 < t ∧ t < (2 : Int) ^ 200) (fun _ => 1) (fun t d => ∃ v, d = .int v ∧ 0 ≤ v ∧ v < t)
end
/-! ### a def that makes a stock from the script -/
def spMk1 (K : PySem.W.Frag) (F : List Int → (List D → Prop) → Prop) : Sp := fun vs H Q _ => ∃ G a ns, vs = [.ref a] ∧ Ex G H ∧ SqL K H a (ns.map V.int) ∧ F ns fun xs => ∀ p us G' H', Ex H H' → Ex G' H' → Ex G G' → (∀ a o, H a = some o → G a = none → G' a = none) → H p = none → G' p = none →
  H' p = some (.lst us) → RA G' us xs → Q (.ref p) H'
section
variable {P : Program} {w : World} {K : PySem.W.Frag} {mg : Str → Option Value} {base : Heap} {k : Nat} {f : Addr} {fd : FuncData} {ps : List Str}
end
section
variable {c : Cn} {K : PySem.W.Frag} {ds : DS} {E : XK}
end
end PD

/-! PD61: the greatest heights at each hand -/
namespace PD
open PySem PySem.Spec PyProof.Rows L2 Evl
abbrev OI := Option Int
def optI : OI → D
  | some x => .int x
  | none => .none
def updG (best : List OI) (g : Nat) (r : Int) : List OI := match best[g]? with
  | some (some x) => if x < r then best.set g (some r) else best
  | some none => best.set g (some r)
  | none => best
def reachH (v : Dv) (height : Int) (hand goal : Nat) : Int := if goal < hand then height - min ((hand : Int) - (goal : Int)) (slk v.1 height) else height + max ((goal : Int) - (hand : Int) - slk v.2 (height - (hand : Int))) 0
def innerF (v : Dv) (best : List OI) (hand : Nat) (h : Int) (n : Nat) : List OI := (List.range n).foldl (fun b g => updG b g (reachH v h hand g)) best
def turnF (v : Dv) (tops : List OI) (b : List OI) (hd : Nat) : List OI := match tops[hd]? with
  | some (some h) => innerF v b hd h tops.length
  | _ => b
def moreF (v : Dv) (tops : List OI) (n : Nat) : List OI := (List.range n).foldl (turnF v tops) tops
def more (v : Dv) (tops : List OI) : List OI := moreF v tops tops.length
def itT (v : Dv) (tops : List OI) : Nat → List OI
  | 0 => tops
  | n + 1 => more v (itT v tops n)
def Ge (b tops : List OI) : Prop := ∀ (g : Nat) (h : Int), tops[g]? = some (some h) → ∃ x, b[g]? = some (some x) ∧ h ≤ x
def Bd (b : List OI) (B : Nat) : Prop := ∀ (g : Nat) (h : Int), b[g]? = some (some h) → h.natAbs ≤ B
/-! ### shifted -/
def upT (s : Int) (tops : List OI) : List OI := tops.map fun o => o.map (· + s)
/-! ### begun -/
def startT (reach hand : Nat) (height : Int) : List OI := (List.replicate (reach + 1) none).set hand (some height)
end PD

/-! PD62: greatest heights, told by a law -/
namespace PD
open PySem PySem.Spec PyProof.Rows L2 Evl
abbrev offD (v : Dv) : D := .list [.list ((sl v.1).map PyData.int), .list ((sl v.2).map PyData.int)]
theorem caught_up {c : Comb} (n k : Int) : caught c (n + c.p * k) = caught c n := by
  unfold caught
  rw [Int.add_mul_emod_self_left]
theorem flo_near {c : Comb} (ok : c.Ok) (n : Int) : flo c n ≤ n ∧ n < flo c n + 24 := by
  have h1 := slk_nn ok n
  have h2 := slk_lt ok n
  have h3 := ok.p24
  unfold slk at h1 h2
  omega
def vOne : Dv := (⟨1, [0]⟩, ⟨1, [0]⟩)
def vTwo : Dv := (⟨24, [0, 7]⟩, ⟨23, [1, 12]⟩)
end PD

/-! PD63: the script still read behind a stock made -/
namespace PD
open PySem PySem.Spec PyProof.Rows L2 Evl
def Scq (K : PySem.W.Frag) (c : Cn) (a : Addr) (ns : List Int) : Prop := SqL K c.H0 a (ns.map V.int) ∧ (Rd c.H0 a (.lst (ns.map V.int)) → c.pool ≠ some a)
section
variable {c : Cn} {K : PySem.W.Frag} {ds : DS} {pl : List D} {Φ : W → List D → Prop} {E : XK}
end
end PD

/-! PD64: a dict of numbers made by a comprehension, handed back; its keys gone through -/
namespace PD
open PySem PySem.Spec PyProof.Rows L2 Evl
def vsI (tb : List (Int × Int)) : List (Key × V) := tb.map fun e => (.inl e.1, .int e.2)
section
variable {c : Cn} {K : PySem.W.Frag} {ds : DS} {pl : List D} {D' : Ends} {G0 G H : Hp} {σ : L2.St} {E : EE} {Φ : W → List D → Prop} {te tk tv : TE} {tt : TT} {tr : TA} {j : Nat}
abbrev tbF (f : Int → Int) (xs : List Int) : List (Int × Int) := xs.map fun x => (x, f x)
end
end PD

/-! PD65: heights held and stuck; rows of spans -/
namespace PD
open PySem PySem.Spec PyProof.Rows L2 Evl
def heldN (v : Dv) (arm : Int) (n : Nat) : List Int := ((List.range n).map fun (h : Nat) => (h : Int)).filter fun h => held v (h, arm)
abbrev heldL (v : Dv) (arm : Int) : List Int := heldN v arm (lcmV v).toNat
def stuckL (v : Dv) (arm : Int) (ms : List Int) : List Int := (heldL v arm).filter fun h => decide ((mvs v (h, arm) ms).1 = h)
/-! ### rows -/
end PD

/-! PD66: never a common pitch from the mean; cycles no longer than the held heights -/
namespace PD
open PySem PySem.Spec PyProof.Rows L2 Evl
section
variable {v : Dv} {ms : List Int} {palm L t b : Int}
end
end PD

/-! PD67: a device with more teeth; zip of two tuples -/
namespace PD
open PySem PySem.Spec PyProof.Rows L2 Evl
section
variable {c : Cn} {K : PySem.W.Frag} {ds : DS} {pl : List D} {Φ : W → List D → Prop} {tr : TA} {t : TS} {E : EE}
end
structure More (a b : Comb) : Prop where
  p : a.p = b.p
  sub : ∀ t ∈ a.ts, t ∈ b.ts
def MoreD (v w : Dv) : Prop := More v.1 w.1 ∧ More v.2 w.2
section
variable {v w : Dv} (ov : v.Ok) (ow : w.Ok) (m : MoreD v w)
include ov ow m
omit ov ow in
end
/-! ### best heights -/
section
variable {v w : Dv} (ov : v.Ok) (ow : w.Ok) (m : MoreD v w)
include ov ow m
end
/-! ### counts -/
def cbN (c : Comb) (n : Int) : Int := n / c.p * (c.ts.length : Int) + ((c.ts.filter fun t => decide (t < n % c.p)).length : Int)
end PD

/-! PD68: gaps that are there; combs of all teeth -/
namespace PD
open PySem PySem.Spec PyProof.Rows L2 Evl
def allC (p : Int) : Comb := ⟨p, (List.range p.toNat).map fun (i : Nat) => (i : Int)⟩
def allD (v : Dv) : Dv := (allC v.1.p, allC v.2.p)
end PD

/-! PD69: [.. for i in range(a, b, s) for y in ys] -/
namespace PD
open PySem PySem.Spec PyProof.Rows L2 Evl
section
variable {c : Cn} {K : PySem.W.Frag} {ds : DS} {pl : List D} {Φ : W → List D → Prop} {te : TE} {tr : TA}
theorem we_lc2R3 {j1 j2 m0 : Nat} (J : Nat → Nat → List D → List D → Prop) (lo st : Int) (N : Nat) (ys : List D) (no : Nod ds) (hm : ds[m0]? = some (some (.d (.list ys)))) (hm1 : m0 ∉ [j1, j2])
    (h : WA c tr ds pl fun zs p1 => ∃ hi, zs = [.int lo, .int hi, .int st] ∧ RgC lo hi st N ∧ J 0 0 [] p1)
    (user : ∀ (i k : Nat) y acc pl', i < N → ys[k]? = some y → J i k acc pl' → ∀ pin, WE { c with pin := pin } te ((wipeD ((wipeD ds [j1, j2]).set j1 (some (.d (.int (lo + (i : Nat) * st))))) [j2]).set j2 (some (.d y))) pl' (isD fun z p3 => acc.length < sizeLine ∧ J i (k + 1) (acc ++ [z]) p3))
    (next : ∀ i acc pl', J i ys.length acc pl' → J (i + 1) 0 acc pl')
    (hq : ∀ acc pl', J N 0 acc pl' → Φ (.d (.list acc)) pl') :
    WE c (tLc2 (iRng3 tr) (gName j1) tYes (iList K (tVar m0)) (gName j2) tYes te [j1, j2] [j2]) ds pl Φ := fun G σ H h0 Q q => h G σ H h0 _ fun vs G1 H1 zs p1 h1 e1 f1 ⟨hi, ez, rg, g1⟩ => by
  subst ez
  cases f1 with
  | cons r1 f1 =>
  cases f1 with
  | cons r2 f1 =>
  cases f1 with
  | cons r3 f1 =>
  cases f1
  cases r1
  cases r2
  cases r3
  refine ⟨lo, hi, st, N, rfl, rg, fun Dl hD => ?_⟩
  have f := df_new h1 hD
  refine ⟨fun i m H' => m = N - i ∧ i ≤ N ∧ PvC c σ ds G1 Dl (fun i => J i 0) i H', ⟨N, by simp, Nat.zero_le _, pv_start (fun i => J i 0) h1 hD g1⟩, ?_⟩
  rintro i m H' ⟨rfl, hi', p⟩
  obtain ⟨G', pl', acc, us, h2, e2, hD2, ra, gD, hJ⟩ := id p
  by_cases hlt : i < N
  · refine .inr ⟨hlt, PvC c σ ds G1 Dl (fun i => J i 0) (i + 1), fun H3 q => ⟨N - (i + 1), by omega, rfl, hlt, q⟩, ?_⟩
    rintro x H3 ⟨eH, rfl⟩
    subst eH
    have mem : ∀ w ∈ [j1, j2], w ∈ [j1, j2] := fun w hw => hw
    refine ⟨?_, ?_⟩
    · rw [wipe_in (by simp), wipe_sub mem]
    unfold tYes
    dsimp only
    rw [if_pos rfl]
    obtain ⟨w, w1, w2⟩ := h2.slots m0 _ hm
    have w2' : R _ w (.list ys) := w2
    cases w2' with
    | @lst a2 us2 _ c1 d1 =>
    refine ⟨.ref a2, ?_, a2, rfl, ⟨us2, SqL.of (h2.sub _ _ c1)⟩, ?_⟩
    · have ne1 : j1 ≠ m0 := fun e => hm1 (e ▸ by simp)
      rw [List.getElem?_set_ne ne1, wipe_ne hm1]
      exact w1
    refine ⟨fun k m H'' => m = us2.length - k ∧ k ≤ us2.length ∧ PvC c σ ds G' Dl (J i) k H'', ⟨us2.length, by simp, Nat.zero_le _, _, pl', acc, us, h2, Ex.refl _, hD2, ra, gD, hJ⟩, ?_⟩
    rintro k m H'' ⟨rfl, hk, p2⟩
    obtain ⟨G5, pl5, acc5, us5, h5, e5, hD5, ra5, gD5, hJ5⟩ := id p2
    have sq2 : SqL K H'' a2 us2 := SqL.of (h5.sub _ _ (e5 _ _ c1))
    by_cases hlt2 : k < us2.length
    · refine .inr ⟨⟨us2, us2[k], sq2, by simp [hlt2]⟩, PvC c σ ds G' Dl (J i) (k + 1), fun H3 q => ⟨us2.length - (k + 1), by omega, rfl, hlt2, q⟩, ?_⟩
      rintro y H6 ⟨eH, y3⟩
      subst eH
      obtain ⟨dy, hdy, hry⟩ := d1.get' (y3 us2 sq2)
      refine ⟨wipe_set _ j2 y, ?_⟩
      have hw0 := (h5.wipe [j1, j2]).set (i := j1) (w := .d (.int (lo + (i : Nat) * st))) (R.int _) fun xs z => by cases z
      have hw := (hw0.wipe [j2]).set (i := j2) (w := .d dy) (R.up hry e5) fun xs z => by cases z
      have nod := (((no.wipe [j1, j2]).set j1 (.int (lo + (i : Nat) * st))).wipe [j2]).set j2 dy
      exact lc_turnG (tt := tYes) (J i) f (nod.df f) (fun i' xs' q => absurd q (no i' xs')) h5 hw e5 (Ex.refl _) hD5 gD5 ra5 (fun pin => wt_yes (iteV rfl (user i k dy acc5 pl5 hlt hdy hJ5 pin))) hJ5
    · have ek : k = us2.length := by omega
      subst ek
      have hJ6 : J i ys.length acc5 pl5 := by rw [← d1.len]; exact hJ5
      exact .inl ⟨⟨us2, sq2, Nat.le_refl _⟩, G5, pl5, acc5, us5, h5, e2.trans e5, hD5, ra5, gD5, next i acc5 pl5 hJ6⟩
  · have ei : i = N := by omega
    subst ei
    exact .inl ⟨Nat.le_refl _, pv_end f p hq fun v G' H' w pl' h2 e2 f2 g2 => q v G' H' w pl' h2 (e1.trans e2) f2 g2⟩
end
end PD

/-! PD70: combs of the least pitch -/
namespace PD
open PySem PySem.Spec PyProof.Rows L2 Evl
theorem rgc_all : ∀ p : Fin 25, ∀ q : Fin 25, 1 ≤ q.val → RgC 0 (p.val : Int) (q.val : Int) ((p.val + q.val - 1) / q.val) := by
  unfold RgC
  decide +kernel
theorem rgc {p q : Int} (p0 : 0 ≤ p) (p24 : p ≤ 24) (q1 : 1 ≤ q) (q24 : q ≤ 24) : RgC 0 p q ((p.toNat + q.toNat - 1) / q.toNat) := by
  have h := rgc_all ⟨p.toNat, by omega⟩ ⟨q.toNat, by omega⟩ (by show 1 ≤ q.toNat; omega)
  rw [show ((p.toNat : Nat) : Int) = p by omega, show ((q.toNat : Nat) : Int) = q by omega] at h
  exact h
def under (ts : List Int) (part : Int) : List Int := ts.filter fun t => decide (t < part)
def repT (ts : List Int) (part : Int) (N : Nat) : List Int := (List.range N).flatMap fun (k : Nat) => (under ts part).map fun t => (k : Int) * part + t
theorem repT_mem {ts : List Int} {part : Int} {N : Nat} {x : Int} : x ∈ repT ts part N ↔ ∃ k : Nat, k < N ∧ ∃ t, t ∈ ts ∧ t < part ∧ x = (k : Int) * part + t := by
  unfold repT under
  rw [List.mem_flatMap]
  constructor
  · rintro ⟨k, hk, h⟩
    obtain ⟨t, ht, rfl⟩ := List.mem_map.mp h
    obtain ⟨h1, h2⟩ := List.mem_filter.mp ht
    exact ⟨k, List.mem_range.mp hk, t, h1, of_decide_eq_true h2, rfl⟩
  · rintro ⟨k, hk, t, h1, h2, rfl⟩
    exact ⟨k, List.mem_range.mpr hk, List.mem_map.mpr ⟨t, List.mem_filter.mpr ⟨h1, decide_eq_true h2⟩, rfl⟩⟩
theorem repT_succ (ts : List Int) (part : Int) (N : Nat) : repT ts part (N + 1) = repT ts part N ++ (under ts part).map fun t => (N : Int) * part + t := by
  unfold repT
  rw [List.range_succ, List.flatMap_append]
  simp
theorem asc_ext : ∀ {l m : List Int}, l.Pairwise (· < ·) → m.Pairwise (· < ·) → (∀ x, x ∈ l ↔ x ∈ m) → l = m
  | [], [], _, _, _ => rfl
  | [], b :: m, _, _, h => nomatch (h b).mpr List.mem_cons_self
  | a :: l, [], _, _, h => nomatch (h a).mp List.mem_cons_self
  | a :: l, b :: m, h1, h2, h => by
    rw [List.pairwise_cons] at h1 h2
    have ab : a = b := by
      rcases List.mem_cons.mp ((h a).mp List.mem_cons_self) with e | e
      · exact e
      · rcases List.mem_cons.mp ((h b).mpr List.mem_cons_self) with e2 | e2
        · exact e2.symm
        · have := h1.1 b e2
          have := h2.1 a e
          omega
    subst ab
    rw [asc_ext h1.2 h2.2 fun x => ⟨fun hx => ?_, fun hx => ?_⟩]
    · rcases List.mem_cons.mp ((h x).mp (List.mem_cons_of_mem _ hx)) with e | e
      · have := h1.1 x hx; omega
      · exact e
    · rcases List.mem_cons.mp ((h x).mpr (List.mem_cons_of_mem _ hx)) with e | e
      · have := h2.1 x hx; omega
      · exact e
def Per (c : Comb) (q : Int) : Prop := ∀ n, caught c (n + q) = caught c n
theorem Per.mul {c : Comb} {q : Int} (h : Per c q) (n : Int) : ∀ k : Nat, caught c (n + q * (k : Int)) = caught c n
  | 0 => by rw [show q * ((0 : Nat) : Int) = 0 by rw [show ((0 : Nat) : Int) = 0 by rfl, Int.mul_zero], Int.add_zero]
  | k + 1 => by
    rw [show n + q * ((k + 1 : Nat) : Int) = n + q * (k : Int) + q by rw [show ((k + 1 : Nat) : Int) = (k : Int) + 1 by omega, Int.mul_add, Int.mul_one]; omega, h, h.mul n k]
theorem Per.all {c : Comb} {q : Int} (h : Per c q) (n k : Int) : caught c (n + q * k) = caught c n := by
  rcases Int.le_total 0 k with z | z
  · obtain ⟨m, rfl⟩ := Int.eq_ofNat_of_zero_le z
    exact h.mul n m
  · obtain ⟨m, hm⟩ := Int.eq_ofNat_of_zero_le (show 0 ≤ -k by omega)
    have := h.mul (n + q * k) m
    rw [← hm, Int.mul_neg, show n + q * k + -(q * k) = n by omega] at this
    exact this.symm
theorem caught_mod {c : Comb} (n : Int) : caught c (n % c.p) = caught c n := by
  unfold caught
  rw [Int.emod_emod_of_dvd n (Int.dvd_refl c.p)]
theorem caught_in {c : Comb} (ok : c.Ok) {n : Int} (h0 : 0 ≤ n) (h1 : n < c.p) : caught c n = true ↔ n ∈ c.ts := by
  unfold caught
  rw [Int.emod_eq_of_lt h0 h1]
  exact decide_eq_true_iff
theorem rep_per {c : Comb} (ok : c.Ok) {q : Int} (q1 : 1 ≤ q) (qp : q < c.p) (qd : c.p % q = 0) {N : Nat} (hN : (N : Int) * q = c.p) : repT c.ts q N = c.ts ↔ Per c q := by
  have p1 := ok.p1
  constructor
  · intro e n
    have key : ∀ x, caught c x = true ↔ ∃ t, t ∈ c.ts ∧ t < q ∧ x % q = t := fun x => by
      have r0 := Int.emod_nonneg x (show c.p ≠ 0 by omega)
      have r1 := Int.emod_lt_of_pos x (show 0 < c.p by omega)
      rw [← caught_mod, caught_in ok r0 r1]
      have xm : x % c.p % q = x % q := Int.emod_emod_of_dvd x (Int.dvd_of_emod_eq_zero qd)
      constructor
      · intro h
        rw [← e] at h
        obtain ⟨k, _, t, h1, h2, h3⟩ := repT_mem.mp h
        have t0 := ok.low t h1
        refine ⟨t, h1, h2, ?_⟩
        rw [← xm, h3, Int.mul_comm, Int.add_comm, Int.add_mul_emod_self_left, Int.emod_eq_of_lt t0 h2]
      · rintro ⟨t, h1, h2, h3⟩
        rw [← e]
        have ed := Int.emod_add_mul_ediv (x % c.p) q
        rw [xm, h3] at ed
        have d0 : 0 ≤ x % c.p / q := Int.ediv_nonneg r0 (by omega)
        have d1 : x % c.p / q < N := by
          apply Int.ediv_lt_of_lt_mul (by omega)
          rw [hN]; exact r1
        refine repT_mem.mpr ⟨(x % c.p / q).toNat, by omega, t, h1, h2, ?_⟩
        rw [Int.toNat_of_nonneg d0, Int.mul_comm]
        omega
    have e2 : (n + q) % q = n % q := by
      have := Int.add_mul_emod_self_left n q 1
      rw [Int.mul_one] at this
      exact this
    cases h1 : caught c (n + q) with
    | true =>
      have := (key (n + q)).mp h1
      rw [e2] at this
      exact ((key n).mpr this).symm
    | false =>
      cases h2 : caught c n with
      | false => rfl
      | true =>
        have := (key n).mp h2
        rw [← e2] at this
        rw [(key (n + q)).mpr this] at h1
        cases h1
  · intro h
    -- both ascend and have the same elements
    have up1 : (repT c.ts q N).Pairwise (· < ·) := by
      have : ∀ M : Nat, (repT c.ts q M).Pairwise (· < ·) ∧ ∀ x ∈ repT c.ts q M, x < (M : Int) * q := fun M => by
        induction M with
        | zero => exact ⟨List.Pairwise.nil, fun x hx => nomatch hx⟩
        | succ M ih =>
          rw [repT_succ]
          have uu : ((under c.ts q).map fun t => (M : Int) * q + t).Pairwise (· < ·) := List.pairwise_map.mpr ((List.Pairwise.filter _ ok.up).imp fun h => by omega)
          refine ⟨List.pairwise_append.mpr ⟨ih.1, uu, fun a ha b hb => ?_⟩, fun x hx => ?_⟩
          · obtain ⟨t, ht, rfl⟩ := List.mem_map.mp hb
            have := ih.2 a ha
            have := ok.low t (List.mem_filter.mp ht).1
            omega
          · have em : ((M + 1 : Nat) : Int) * q = (M : Int) * q + q := by rw [show ((M + 1 : Nat) : Int) = (M : Int) + 1 by omega, Int.add_mul, Int.one_mul]
            rcases List.mem_append.mp hx with z | z
            · have := ih.2 x z; omega
            · obtain ⟨t, ht, rfl⟩ := List.mem_map.mp z
              have := of_decide_eq_true (List.mem_filter.mp ht).2
              omega
      exact (this N).1
    refine asc_ext up1 ok.up fun x => ?_
    rw [repT_mem]
    constructor
    · rintro ⟨k, hk, t, h1, h2, rfl⟩
      have t0 := ok.low t h1
      have kq : (k : Int) * q + q ≤ c.p := by
        rw [← hN]
        have := Int.mul_le_mul_of_nonneg_right (show (k : Int) + 1 ≤ (N : Int) by omega) (show 0 ≤ q by omega)
        rw [Int.add_mul, Int.one_mul] at this
        exact this
      have k0 : 0 ≤ (k : Int) * q := Int.mul_nonneg (by omega) (by omega)
      refine (caught_in ok (by omega) (by omega)).mp ?_
      have := h.all t (k : Int)
      rw [show (k : Int) * q + t = t + q * (k : Int) by rw [Int.mul_comm]; omega, this]
      exact (caught_in ok t0 (by omega)).mpr h1
    · intro hx
      have x0 := ok.low x hx
      have x1 := ok.high x hx
      have ed := Int.emod_add_mul_ediv x q
      have r0 := Int.emod_nonneg x (show q ≠ 0 by omega)
      have r1 := Int.emod_lt_of_pos x (show 0 < q by omega)
      have d0 : 0 ≤ x / q := Int.ediv_nonneg x0 (by omega)
      have d1 : x / q < N := by
        apply Int.ediv_lt_of_lt_mul (by omega)
        rw [hN]; exact x1
      refine ⟨(x / q).toNat, by omega, x % q, ?_, r1, ?_⟩
      · refine (caught_in ok r0 (by omega)).mp ?_
        have := h.all (x % q) (x / q)
        rw [ed] at this
        rw [← this]
        exact (caught_in ok x0 x1).mpr hx
      · rw [Int.toNat_of_nonneg d0, Int.mul_comm]; omega
theorem part_ok {c : Comb} (ok : c.Ok) {q : Int} (q1 : 1 ≤ q) (qp : q < c.p) (qd : c.p % q = 0) (h : Per c q) : (Comb.mk q (under c.ts q)).Ok ∧ ∀ n, caught (Comb.mk q (under c.ts q)) n = caught c n := by
  have p24 := ok.p24
  have same : ∀ n, caught (Comb.mk q (under c.ts q)) n = caught c n := fun n => by
    have r0 := Int.emod_nonneg n (show q ≠ 0 by omega)
    have r1 := Int.emod_lt_of_pos n (show 0 < q by omega)
    have e : caught c n = caught c (n % q) := by
      have := h.all (n % q) (n / q)
      rw [Int.emod_add_mul_ediv] at this
      exact this
    rw [e]
    have e2 : caught (Comb.mk q (under c.ts q)) n = decide (n % q ∈ under c.ts q) := rfl
    rw [e2]
    cases z : caught c (n % q) with
    | true => exact decide_eq_true (List.mem_filter.mpr ⟨(caught_in ok r0 (by omega)).mp z, decide_eq_true r1⟩)
    | false =>
      refine decide_eq_false fun m => ?_
      rw [(caught_in ok r0 (by omega)).mpr (List.mem_filter.mp m).1] at z
      cases z
  refine ⟨⟨q1, by show q ≤ 24; omega, fun e => ?_, fun t ht => ok.low t (List.mem_filter.mp ht).1, fun t ht => of_decide_eq_true (List.mem_filter.mp ht).2, List.Pairwise.filter _ ok.up⟩, same⟩
  cases q2 : c.ts with
  | nil => exact ok.ne q2
  | cons a r =>
    have ha : a ∈ c.ts := by rw [q2]; exact List.mem_cons_self
    have s := same a
    rw [(caught_in ok (ok.low a ha) (ok.high a ha)).mpr ha] at s
    have s2 : decide (a % q ∈ under c.ts q) = true := s
    have e' : under c.ts q = [] := e
    rw [e'] at s2
    cases s2
end PD

/-! PD71: == of lists of numbers -/
namespace PD
open PySem PySem.Spec PyProof.Rows L2 Evl
theorem eqv_consI (a b : Int) (xs ys : List D) : PyData.eqv (.list (.int a :: xs)) (.list (.int b :: ys)) = ((a == b) && PyData.eqv (.list xs) (.list ys)) := rfl
theorem eqv_ints : ∀ a b : List Int, PyData.eqv (.list (a.map PyData.int)) (.list (b.map PyData.int)) = decide (a = b)
  | [], [] => rfl
  | [], b :: bs => rfl
  | a :: as, [] => rfl
  | a :: as, b :: bs => by
    rw [List.map_cons, List.map_cons, eqv_consI, eqv_ints as bs]
    by_cases h1 : a = b <;> by_cases h2 : as = bs <;> simp [h1, h2]
end PD

/-! PD72: [.. for x, y, z in triples]; rises told -/
namespace PD
open PySem PySem.Spec PyProof.Rows L2 Evl
section
variable {c : Cn} {K : PySem.W.Frag} {ds : DS} {pl : List D} {Φ : W → List D → Prop} {te tl : TE} {tt : TT}
end
def riseL (v : Dv) (ns : List (Int × Int)) (m : Int) : List Int := (fitL v ns).map fun b => (mv v b.2 m).1 - b.2.1
def AllEq (l : List Int) : Prop := ∀ a ∈ l, ∀ b ∈ l, a = b
end PD

/-! PD73: least pitches, states alike -/
namespace PD
open PySem PySem.Spec PyProof.Rows L2 Evl
def LeastP (c : Comb) (P : Int) : Prop := 1 ≤ P ∧ P ≤ c.p ∧ c.p % P = 0 ∧ Per c P ∧ ∀ q, 1 ≤ q → q < P → c.p % q = 0 → ¬ Per c q
end PD

/-! PD74: zip of three lists in a comprehension -/
namespace PD
open PySem PySem.Spec PyProof.Rows L2 Evl
def Itz3 (K : PySem.W.Frag) (a b d : Addr) : It :=
  ⟨fun i H => ∃ (xs ys zs : List V) (x y z : V), SqL K H a xs ∧ SqL K H b ys ∧ SqL K H d zs ∧ xs[i]? = some x ∧ ys[i]? = some y ∧ zs[i]? = some z,
    fun i H v H' => ∃ T x y z, v = .ref T ∧ H T = none ∧ H' = upd H T (.tup [x, y, z]) ∧ (∀ xs, SqL K H a xs → xs[i]? = some x) ∧ (∀ ys, SqL K H b ys → ys[i]? = some y) ∧ ∀ zs, SqL K H d zs → zs[i]? = some z,
    fun i H => ∃ xs ys zs : List V, SqL K H a xs ∧ SqL K H b ys ∧ SqL K H d zs ∧ i ≤ xs.length ∧ i ≤ ys.length ∧ i ≤ zs.length ∧ (xs.length = i ∨ ys.length = i ∨ zs.length = i)⟩
def iZip3 (K : PySem.W.Frag) (ta : TA) : TI := fun σ H R => ta σ H fun vs H1 => ∃ a b d xs ys zs, vs = [.ref a, .ref b, .ref d] ∧ SqL K H1 a xs ∧ SqL K H1 b ys ∧ SqL K H1 d zs ∧ R (Itz3 K a b d) H1
section
variable {c : Cn} {K : PySem.W.Frag} {ds : DS} {pl : List D} {Φ : W → List D → Prop} {ta tb te : TE} {tr : TA} {tt : TT} {G H : Hp} {σ : L2.St}
end
end PD

/-! PD75: looks of moves from a state -/
namespace PD
open PySem PySem.Spec PyProof.Rows L2 Evl
def notesL (v : Dv) : Sv → List Int → List (Int × Int)
  | _, [] => []
  | s, m :: r => (m, (mv v s m).1 - s.1) :: notesL v (mv v s m) r
theorem plc_start (v : Dv) (s : Sv) : plc v ((plc v s).1, (plc v s).1 - (plc v s).2) = plc v s := by
  show (s.1 % v.1.p % v.1.p, (s.1 % v.1.p - (s.1 % v.1.p - lf s % v.2.p)) % v.2.p) = (s.1 % v.1.p, lf s % v.2.p)
  rw [show s.1 % v.1.p - (s.1 % v.1.p - lf s % v.2.p) = lf s % v.2.p by omega, Int.emod_emod, Int.emod_emod]
section
variable {c : Cn} {K : PySem.W.Frag} {ds : DS} {pl : List D} {Φ : W → List D → Prop}
end
end PD

/-! PD76: calls whose arguments are met, ends of lists -/
namespace PD
open PySem PySem.Spec PyProof.Rows L2 Evl
section
variable {c : Cn} {K : PySem.W.Frag} {ds : DS} {pl : List D} {Φ : W → List D → Prop} {tr : TA} {E : XK}
theorem we_detE {A : Type} {enc : A → List D} {pre : A → Prop} {res : A → D} (ha : WA c tr ds pl fun xs p1 => ∃ a, xs = enc a ∧ pre a ∧ Φ (.d (res a)) p1) : WE c (tCall (spP (det enc pre res)) [] E tr) ds pl Φ := we_call (ha.mono fun xs p1 ⟨a, e, p, h⟩ => ⟨a, e, p, h⟩) det_mono
theorem we_relE {A : Type} {enc : A → List D} {pre : A → Prop} {post : A → D → Prop} (ha : WA c tr ds pl fun xs p1 => ∃ a, xs = enc a ∧ pre a ∧ ∀ d, post a d → Φ (.d d) p1) : WE c (tCall (spP (rel enc pre post)) [] E tr) ds pl Φ := we_call (ha.mono fun xs p1 ⟨a, e, p, h⟩ => ⟨a, e, p, h⟩) rel_mono
end
end PD

/-! PD77: sets of numbers made by a comprehension, sorted, of any length -/
namespace PD
open PySem PySem.Spec PyProof.Rows L2 Evl
abbrev stMore (t : (Int → Bool) × Nat) (k : Int) : (Int → Bool) × Nat := (fun j => t.1 j || decide (j = k), if t.1 k = true then t.2 else t.2 + 1)
abbrev stO (w : World) (D : Addr) (t : (Int → Bool) × Nat) : HO := SetO w D t.1 t.2
abbrev st0 : (Int → Bool) × Nat := (fun _ => false, 0)
def tScN (w : World) (wi : TI) (g : TG) (tt : TT) (te : TE) (vs : List Nat) : TE := fun σ H Q => wi σ H fun J HA => ∀ D, HA D = none → ∃ M : Nat → Nat → Hp → Prop, (∃ m, M 0 m (upd HA D (stO w D st0))) ∧ ∀ i m HB, M i m HB →
  (J.stop i HB ∧ Q (.ref D) HB) ∨ (J.go i HB ∧ ∃ N : Hp → Prop, (∀ HC, N HC → ∃ m', m' < m ∧ M (i + 1) m' HC) ∧ ∀ x HC, J.yld i HB x HC → g x (wipe σ vs) HC fun τ HD => wipe τ vs = wipe σ vs ∧ tt τ HD fun b HE =>
    if b = true then te τ HE fun y HF => ∃ (k : Int) (t : (Int → Bool) × Nat), y = .int k ∧ HF D = some (stO w D t) ∧ t.2 + 1 < scanBound ∧ N (upd HF D (stO w D (stMore t k))) else N HE)
section
variable {X : Cx}
def rSortedN (w : World) : List V → Hp → VK → Prop := fun vs H Q => ∃ (a : Addr) (t : (Int → Bool) × Nat), vs = [V.ref a] ∧ H a = some (stO w a t) ∧ t.2 ≤ 100000 ∧
  ∀ (ns : List Int) (p : Addr), ns.Pairwise (· < ·) → (∀ k : Int, k ∈ ns ↔ t.1 k = true) → ns.length = t.2 → H p = none → Q (.ref p) (upd H p (.lst (ns.map V.int)))
end
section
variable {c : Cn} {K : PySem.W.Frag} {ds : DS} {pl : List D} {Φ : W → List D → Prop} {te tl : TE} {tt : TT} {σ : L2.St} {j : Nat} {w : World}
def PvS (w : World) (c : Cn) (σ : L2.St) (ds : DS) (G1 : Hp) (Dl : Addr) (J : Nat → (Int → Bool) × Nat → List D → Prop) (i : Nat) (H' : Hp) : Prop :=
  ∃ G' pl' t, HS c G' σ H' ds pl' ∧ Ex G1 G' ∧ H' Dl = some (stO w Dl t) ∧ G' Dl = none ∧ J i t pl'
end
end PD

/-! PD78: heights that last, and how soon only these are left -/
namespace PD
open PySem PySem.Spec PyProof.Rows L2 Evl
def gk (v : Dv) (ms : List Int) (arm : Int) (k : Nat) (x : Int) : Int := hx v ms arm x k % lcmV v
def imgL (v : Dv) (ms : List Int) (arm : Int) (xs : List Int) : List Int := (heldL v arm).filter fun y => xs.any fun x => decide (gk v ms arm 1 x = y)
def setl (v : Dv) (ms : List Int) (arm : Int) : Nat → List Int
  | 0 => heldL v arm
  | k + 1 => imgL v ms arm (setl v ms arm k)
structure Settle (v : Dv) (ms : List Int) (arm : Int) (k : Nat) : Prop where
  same : (setl v ms arm (k + 1)).length = (setl v ms arm k).length
  less : ∀ j, j < k → (setl v ms arm (j + 1)).length < (setl v ms arm j).length
section
variable {v : Dv} {ms : List Int} {arm : Int}
section
variable {K : Nat} (ok : v.Ok) (s0 : ms.sum = 0) (st : Settle v ms arm K)
include ok s0 st
end
end
end PD

/-! PD79: settling is told once -/
namespace PD
open PySem PySem.Spec PyProof.Rows L2 Evl
end PD

/-! PD80: rounds begun elsewhere -/
namespace PD
open PySem PySem.Spec PyProof.Rows L2 Evl
section
variable {v : Dv} {ms : List Int} {arm t b t' b' : Int}
theorem rp_same {ms ms' : List Int} (e : ∀ s, mvs v s ms = mvs v s ms') (s : Sv) : ∀ k : Nat, rp v ms s k = rp v ms' s k
  | 0 => rfl
  | k + 1 => by show mvs v (rp v ms s k) ms = mvs v (rp v ms' s k) ms'; rw [rp_same e s k, e]
theorem Mean.same {ms' : List Int} (e : ∀ s, mvs v s ms = mvs v s ms') (m : Mean v ms arm t b) : Mean v ms' arm t b := by
  refine ⟨m.t0, m.b0, m.b5, m.low, fun a n j cy => ?_⟩
  have r := rp_same e (a, arm)
  have cy' : Cyc v ms (a, arm) n j := ⟨cy.lt, by rw [r, r]; exact cy.eq, fun i k h1 h2 => by rw [r, r]; exact cy.inj i k h1 h2⟩
  have := m.eq a n j cy'
  rw [r, r] at this
  exact this
section
variable {A B : List Int}
def ph (v : Dv) (ms : List Int) (arm x : Int) : Int := (mvs v (x, arm) ms).1 % lcmV v
end
end
end PD

/-! PD81: the catch above; heights that are needed; ways by hands within a reach -/
namespace PD
open PySem PySem.Spec PyProof.Rows L2 Evl
abbrev uppT (c : Comb) (r : Int) : List Int := c.ts.filter fun t => decide (r ≤ t)
def roo (c : Comb) (n : Int) : Int := if uppT c (n % c.p) = [] then n - n % c.p + c.p + c.ts.headD 0 else n - n % c.p + (uppT c (n % c.p)).headD 0
theorem head_mem {l : List Int} (h : l ≠ []) : l.headD 0 ∈ l := by
  cases l with
  | nil => exact absurd rfl h
  | cons a r => exact List.mem_cons_self
theorem head_min {l : List Int} (up : l.Pairwise (· < ·)) {x : Int} (h : x ∈ l) : l.headD 0 ≤ x := by
  cases l with
  | nil => cases h
  | cons a r =>
    rcases List.mem_cons.mp h with e | e
    · show a ≤ x; omega
    · have := (List.pairwise_cons.mp up).1 x e
      show a ≤ x; omega
theorem roo_spec {c : Comb} (ok : c.Ok) (n : Int) : n ≤ roo c n ∧ caught c (roo c n) = true ∧ ∀ y, n ≤ y → y < roo c n → caught c y = false := by
  have hp : 0 < c.p := by have := ok.p1; omega
  have r0 := Int.emod_nonneg n (show c.p ≠ 0 by omega)
  have r1 := Int.emod_lt_of_pos n hp
  have hb : n = c.p * (n / c.p) + n % c.p := (Int.mul_ediv_add_emod n c.p).symm
  have res : ∀ m s : Int, ∀ k : Int, m = c.p * k + s → 0 ≤ s → s < c.p → caught c m = decide (s ∈ c.ts) := fun m s k e a b => by
    unfold caught
    rw [mod_of a b k e]
  unfold roo
  generalize n % c.p = r at r0 r1 hb
  generalize n / c.p = q at hb
  by_cases hu : uppT c r = []
  · rw [if_pos hu]
    have low : ∀ t ∈ c.ts, t < r := fun t ht => by
      by_cases z : r ≤ t
      · have : t ∈ uppT c r := List.mem_filter.mpr ⟨ht, decide_eq_true z⟩
        rw [hu] at this
        cases this
      · omega
    have hm := head_mem ok.ne
    have h0 := ok.low _ hm
    have h1 := ok.high _ hm
    have mul1 : c.p * (q + 1) = c.p * q + c.p := by rw [Int.mul_add, Int.mul_one]
    refine ⟨by omega, ?_, fun y y1 y2 => ?_⟩
    · rw [res _ (c.ts.headD 0) (q + 1) (by omega) h0 h1]
      exact decide_eq_true hm
    · by_cases hy : y < c.p * (q + 1)
      · rw [res y (y - c.p * q) q (by omega) (by omega) (by omega)]
        exact decide_eq_false fun z => by have := low _ z; omega
      · rw [res y (y - c.p * (q + 1)) (q + 1) (by omega) (by omega) (by omega)]
        exact decide_eq_false fun z => by have := head_min ok.up z; omega
  · rw [if_neg hu]
    have hm := head_mem hu
    have hm2 := List.mem_filter.mp hm
    have hr := of_decide_eq_true hm2.2
    have h0 := ok.low _ hm2.1
    have h1 := ok.high _ hm2.1
    have up : (uppT c r).Pairwise (· < ·) := ok.up.sublist (List.filter_sublist ..)
    refine ⟨by omega, ?_, fun y y1 y2 => ?_⟩
    · rw [res _ ((uppT c r).headD 0) q (by omega) h0 h1]
      exact decide_eq_true hm2.1
    · rw [res y (y - c.p * q) q (by omega) (by omega) (by omega)]
      refine decide_eq_false fun z => ?_
      have : y - c.p * q ∈ uppT c r := List.mem_filter.mpr ⟨z, decide_eq_true (by omega)⟩
      have := head_min up this
      omega
theorem roo_le {c : Comb} (ok : c.Ok) (n x : Int) : n ≤ flo c x ↔ roo c n ≤ x := by
  obtain ⟨a1, a2, a3⟩ := roo_spec ok n
  obtain ⟨b1, b2, b3⟩ := flo_spec ok x
  constructor
  · intro h
    rcases Int.lt_or_le (flo c x) (roo c n) with z | z
    · have := a3 _ h z
      rw [b2] at this
      cases this
    · omega
  · intro h
    rcases Int.lt_or_le (flo c x) n with z | z
    · have := b3 (roo c n) (by omega) h
      rw [a2] at this
      cases this
    · exact z
def minL : List Int → Int
  | [] => 0
  | [a] => a
  | a :: b :: r => min a (minL (b :: r))
theorem minL_spec : ∀ {l : List Int}, l ≠ [] → minL l ∈ l ∧ ∀ y ∈ l, minL l ≤ y
  | [], h => absurd rfl h
  | [a], _ => ⟨List.mem_cons_self, fun y hy => by rw [List.mem_singleton.mp hy]; exact Int.le_refl _⟩
  | a :: b :: r, _ => by
    obtain ⟨h1, h2⟩ := minL_spec (l := b :: r) (by simp)
    have e : minL (a :: b :: r) = min a (minL (b :: r)) := rfl
    rw [e]
    refine ⟨?_, fun y hy => ?_⟩
    · rcases Int.le_total a (minL (b :: r)) with z | z
      · rw [Int.min_eq_left z]; exact List.mem_cons_self
      · rw [Int.min_eq_right z]; exact List.mem_cons_of_mem _ h1
    · rcases List.mem_cons.mp hy with z | z
      · omega
      · have := h2 y z; omega
def needH (v : Dv) (N : Nat → Int) (a g : Nat) : Int := if g < a then min (N g + a - g) (roo v.1 (N g)) else if a < g then min (N g) (a + roo v.2 (N g - g)) else N a
def stepN (v : Dv) (R : Nat) (N : Nat → Int) (a : Nat) : Int := minL ((List.range (R + 1)).map (needH v N a))
def nrow (v : Dv) (R : Nat) (H : Int) : Nat → Nat → Int
  | 0, _ => H
  | k + 1, a => stepN v R (nrow v R H k) a
def goS (v : Dv) : Int → Nat → List Nat → Int × Nat
  | h, a, [] => (h, a)
  | h, a, g :: gs => goS v (reachH v h a g) g gs
section
variable {v : Dv} {R : Nat} {H : Int}
theorem needH_iff (ok : v.Ok) (N : Nat → Int) (h : Int) (a g : Nat) : needH v N a g ≤ h ↔ N g ≤ reachH v h a g := by
  have s0 := slk_nn ok.2 (h - (a : Int))
  unfold needH reachH
  by_cases q : g < a
  · rw [if_pos q, if_pos q]
    have r := roo_le ok.1 (N g) h
    have e : slk v.1 h = h - flo v.1 h := rfl
    rw [e]
    constructor
    · intro z
      rcases Int.le_total (N g + a - g) (roo v.1 (N g)) with y | y
      · rw [Int.min_eq_left y] at z; omega
      · rw [Int.min_eq_right y] at z
        have := r.mpr z
        omega
    · intro z
      by_cases y : N g ≤ flo v.1 h
      · have := r.mp y; omega
      · omega
  · rw [if_neg q, if_neg q]
    by_cases p : a < g
    · rw [if_pos p]
      have r := roo_le ok.2 (N g - g) (h - a)
      have e : slk v.2 (h - (a : Int)) = h - a - flo v.2 (h - a) := rfl
      rw [e] at s0 ⊢
      constructor
      · intro z
        rcases Int.le_total (N g) (a + roo v.2 (N g - g)) with y | y
        · rw [Int.min_eq_left y] at z; omega
        · rw [Int.min_eq_right y] at z
          have := r.mpr (by omega)
          omega
      · intro z
        by_cases y : N g - g ≤ flo v.2 (h - a)
        · have := r.mp y; omega
        · omega
    · have e : g = a := by omega
      subst e
      rw [if_neg p]
      omega
theorem range_ne (R : Nat) (f : Nat → Int) : (List.range (R + 1)).map f ≠ [] := by simp
theorem step_iff (ok : v.Ok) (N : Nat → Int) (h : Int) (a : Nat) : stepN v R N a ≤ h ↔ ∃ g, g ≤ R ∧ N g ≤ reachH v h a g := by
  obtain ⟨m1, m2⟩ := minL_spec (range_ne R (needH v N a))
  constructor
  · intro z
    obtain ⟨g, hg, e⟩ := List.mem_map.mp m1
    exact ⟨g, by have := List.mem_range.mp hg; omega, (needH_iff ok N h a g).mp (by rw [e]; exact z)⟩
  · rintro ⟨g, hg, z⟩
    have := m2 _ (List.mem_map.mpr ⟨g, List.mem_range.mpr (by omega), rfl⟩)
    have := (needH_iff ok N h a g).mpr z
    show minL _ ≤ h
    omega
theorem reach_own (ok : v.Ok) (h : Int) (a : Nat) : reachH v h a a = h := by
  have := slk_nn ok.2 (h - (a : Int))
  unfold reachH
  rw [if_neg (Nat.lt_irrefl _)]
  omega
/-! ### a measure of rows -/
def rowM (lo : Int) (f : Nat → Int) : Nat → Nat
  | 0 => 0
  | n + 1 => rowM lo f n + (f n - lo).toNat
/-! ### the greatest heights -/
/-! ### the least moves -/
inductive Grd (v : Dv) (R : Nat) (H : Int) : Nat → Int → Nat → List Nat → Prop
  | nil {h : Int} {a : Nat} : Grd v R H 0 h a []
  | cons {k : Nat} {h : Int} {a g : Nat} {gs : List Nat} (hg : g ≤ R) (hi : nrow v R H k g ≤ reachH v h a g) (lo : ∀ g', g' < g → ¬ nrow v R H k g' ≤ reachH v h a g') (t : Grd v R H k (reachH v h a g) g gs) : Grd v R H (k + 1) h a (g :: gs)
theorem Grd.len {k : Nat} {h : Int} {a : Nat} {gs : List Nat} (t : Grd v R H k h a gs) : gs.length = k := by
  induction t with
  | nil => rfl
  | cons _ _ _ _ ih => rw [List.length_cons, ih]
structure Few (v : Dv) (R : Nat) (H : Int) (k : Nat) (h : Int) (a : Nat) : Prop where
  hi : nrow v R H k a ≤ h
  lo : ∀ j, j < k → h < nrow v R H j a
theorem Few.next (ok : v.Ok) {k : Nat} {h : Int} {a g : Nat} (f : Few v R H (k + 1) h a) (hg : g ≤ R) (hi : nrow v R H k g ≤ reachH v h a g) : Few v R H k (reachH v h a g) g ∧ g ≠ a := by
  have key : ∀ j, j < k → reachH v h a g < nrow v R H j g := fun j hj => by
    rcases Int.lt_or_le (reachH v h a g) (nrow v R H j g) with z | z
    · exact z
    · have : nrow v R H (j + 1) a ≤ h := (step_iff ok _ _ _).mpr ⟨g, hg, z⟩
      have := f.lo (j + 1) (by omega)
      omega
  refine ⟨⟨hi, key⟩, fun e => ?_⟩
  subst e
  rw [reach_own ok] at hi
  have := f.lo k (Nat.lt_succ_self k)
  omega
def movesOf : Nat → List Nat → List Int
  | _, [] => []
  | a, g :: gs => ((g : Int) - (a : Int)) :: movesOf g gs
theorem reach_mv (ok : v.Ok) (h : Int) {a g : Nat} (ne : g ≠ a) : mv v (h, (a : Int)) ((g : Int) - (a : Int)) = (reachH v h a g, (g : Int)) := by
  unfold reachH
  by_cases q : g < a
  · rw [if_pos q, mv_down' (by omega)]
    refine Prod.ext ?_ (by show (a : Int) + ((g : Int) - a) = g; omega)
    show h - min (-((g : Int) - a)) (slk v.1 h) = h - min ((a : Int) - g) (slk v.1 h)
    congr 2
    omega
  · rw [if_neg q, mv_up' (by omega)]
    refine Prod.ext ?_ (by show (a : Int) + ((g : Int) - a) = g; omega)
    show h + ((g : Int) - a) - min ((g : Int) - a) (slk v.2 (h - a)) = h + max ((g : Int) - a - slk v.2 (h - a)) 0
    omega
end
end PD

/-! PD82: a loop over a list from its end -/
namespace PD
open PySem PySem.Spec PyProof.Rows L2 Evl
section
variable {c : Cn} {K : PySem.W.Frag} {ds : DS} {pl : List D} {t : TS} {E : EE}
end
end PD

/-! PD83: rows of heights as data; told best moves -/
namespace PD
open PySem PySem.Spec PyProof.Rows L2 Evl
abbrev rowI (R : Nat) (f : Nat → Int) : List Int := (List.range (R + 1)).map f
abbrev rowN (R : Nat) (f : Nat → Int) : D := .list ((rowI R f).map PyData.int)
def TellF (v : Dv) (R : Nat) (H h : Int) (a : Nat) (some' : Nat → D → Prop) (d : D) : Prop := (d = .none ∧ ∀ j, h < nrow v R H j a) ∨ ∃ k, k ≤ 10000 ∧ Few v R H k h a ∧ some' k d
end PD

/-! PD84: for over a range with a step; states of ways -/
namespace PD
open PySem PySem.Spec PyProof.Rows L2 Evl
section
variable {c : Cn} {K : PySem.W.Frag} {ds : DS} {pl : List D} {t : TS} {E : EE} {tr : TA}
end
section
variable {v : Dv} {R : Nat} {H : Int}
def statS (v : Dv) : Int → Nat → List Nat → List Sv
  | _, _, [] => []
  | h, a, g :: gs => (reachH v h a g, (g : Int)) :: statS v (reachH v h a g) g gs
def NoStay : Nat → List Nat → Prop
  | _, [] => True
  | a, g :: gs => g ≠ a ∧ NoStay g gs
theorem Grd.under (ok : v.Ok) {k : Nat} {h : Int} {a : Nat} {gs : List Nat} (aR : a ≤ R) (t : Grd v R H k h a gs) (f : Few v R H k h a) : ∀ s ∈ ((h, (a : Int)) :: statS v h a gs).dropLast, s.1 < H := by
  induction t with
  | nil => intro s hs; cases hs
  | @cons k h a g gs hg hi lo t ih =>
    obtain ⟨f2, ne⟩ := f.next ok hg hi
    intro s hs
    have e : ((h, (a : Int)) :: statS v h a (g :: gs)).dropLast = (h, (a : Int)) :: ((reachH v h a g, (g : Int)) :: statS v (reachH v h a g) g gs).dropLast := rfl
    rw [e] at hs
    rcases List.mem_cons.mp hs with z | z
    · rw [z]; exact f.lo 0 (Nat.succ_pos k)
    · exact ih hg f2 s z
end
end PD

/-! PD85: moves told in parts -/
namespace PD
open PySem PySem.Spec PyProof.Rows L2 Evl
end PD

/-! PD86: pumping as a way; a higher bar's rows; a way that climbs -/
namespace PD
open PySem PySem.Spec PyProof.Rows L2 Evl
section
variable {v : Dv} {R : Nat}
def altG (a g : Nat) : Nat → List Nat
  | 0 => []
  | n + 1 => altG a g n ++ [g, a]
end
end PD

/-! PD87: two names from a list of two; ways by one more -/
namespace PD
open PySem PySem.Spec PyProof.Rows L2 Evl
end PD

/-! PD88: the law's end with bounded cells; products of cells; a device upside down -/
namespace PD
open PySem PySem.Spec PyProof.Rows L2 Evl
open Builtin.Int (intBits)
section
variable {X : Cx}
end
section
variable {c : Cn} {K : PySem.W.Frag} {ds : DS} {Φ : W → List D → Prop}
end
section
variable {P : Program} {w : World} {K : PySem.W.Frag} {mg : Str → Option Value} {base : Heap} {f : Addr} {fd : FuncData} {ps : List Str} {k : Nat}
def spLawB (K : PySem.W.Frag) : Sp := fun vs H Q _ => ∃ (a : Addr) (ns : List Int), vs = [.ref a] ∧ SqL K H a (ns.map V.int) ∧ ns.length ≤ 63 ∧ (∀ z ∈ ns, intBits z ≤ 1048576) ∧ ∀ H', Q (.bl true) H'
end
/-! ### a device upside down -/
structure Ovr (R : Nat) (v u : Dv) : Prop where
  g : ∀ y, caught u.1 y = caught v.1 (-y)
  h : ∀ y, caught u.2 y = caught v.2 (-y - (R : Int))
theorem Ovr.symm {R : Nat} {v u : Dv} (o : Ovr R v u) : Ovr R u v := ⟨fun y => by rw [o.g, Int.neg_neg], fun y => by rw [o.h]; congr 1; omega⟩
section
variable {v u : Dv} {R : Nat}
def revG (R : Nat) : Nat → List Nat → List Nat
  | _, [] => []
  | a, g :: gs => revG R g gs ++ [R - a]
end
end PD

/-! PD89: a list from its end -/
namespace PD
open PySem PySem.Spec PyProof.Rows L2 Evl
/-! ### ways upside down, their moves and states -/
section
variable {v : Dv} {R : Nat}
def lastH : Nat → List Nat → Nat
  | a, [] => a
  | _, g :: gs => lastH g gs
end
end PD

/-! PD90: a comb upside down -/
namespace PD
open PySem PySem.Spec PyProof.Rows L2 Evl
end PD

/-! PD91: moves and rounds upside down -/
namespace PD
open PySem PySem.Spec PyProof.Rows L2 Evl
section
variable {v u : Dv}
end
end PD

/-! PD92: plain combs -/
namespace PD
open PySem PySem.Spec PyProof.Rows L2 Evl
def Plain (b : Comb) : Prop := b.Ok ∧ ∀ q, 1 ≤ q → q < b.p → b.p % q = 0 → ¬ Per b q
theorem per_own (b : Comb) : Per b b.p := fun n => by
  have := caught_up (c := b) n 1
  rw [Int.mul_one] at this
  exact this
theorem per_gcd {c : Comb} (p q : Nat) : Per c (p : Int) → Per c (q : Int) → Per c ((Nat.gcd p q : Nat) : Int) := by
  refine Nat.gcd.induction p q (fun n => ?_) fun m n m0 ih => ?_
  · intro _ hq
    rw [Nat.gcd_zero_left]
    exact hq
  · intro hm hn
    rw [Nat.gcd_rec]
    refine ih (fun x => ?_) hm
    have e := Int.emod_add_mul_ediv (n : Int) (m : Int)
    have e2 : ((n % m : Nat) : Int) = (n : Int) % (m : Int) := Int.natCast_emod n m
    rw [e2, show x + (n : Int) % (m : Int) = x + (n : Int) + (m : Int) * (-((n : Int) / (m : Int))) by rw [Int.mul_neg]; omega, hm.all, hn]
theorem Plain.uniq {b c : Comb} (pb : Plain b) (pc : Plain c) (same : ∀ n, caught b n = caught c n) : b = c := by
  have b1 := pb.1.p1
  have c1 := pc.1.p1
  have pcb : Per b c.p := fun n => by rw [same, same]; exact per_own c n
  have g := per_gcd (c := b) b.p.toNat c.p.toNat (by rw [Int.toNat_of_nonneg (by omega)]; exact per_own b) (by rw [Int.toNat_of_nonneg (by omega)]; exact pcb)
  obtain ⟨g9, hg9⟩ : ∃ y, Nat.gcd b.p.toNat c.p.toNat = y := ⟨_, rfl⟩
  have d1 : g9 ∣ b.p.toNat := by rw [← hg9]; exact Nat.gcd_dvd_left _ _
  have d2 : g9 ∣ c.p.toNat := by rw [← hg9]; exact Nat.gcd_dvd_right _ _
  have g1 : 0 < g9 := by rw [← hg9]; exact Nat.gcd_pos_of_pos_left _ (by omega)
  have l1 := Nat.le_of_dvd (by omega) d1
  have l2 := Nat.le_of_dvd (by omega) d2
  rw [hg9] at g
  have m1 : b.p % (g9 : Int) = 0 := by
    have := Int.natCast_emod b.p.toNat g9
    rw [Nat.mod_eq_zero_of_dvd d1, Int.toNat_of_nonneg (by omega)] at this
    exact this.symm
  have m2 : c.p % (g9 : Int) = 0 := by
    have := Int.natCast_emod c.p.toNat g9
    rw [Nat.mod_eq_zero_of_dvd d2, Int.toNat_of_nonneg (by omega)] at this
    exact this.symm
  have e1 : (g9 : Int) = b.p := by
    rcases Int.lt_or_eq_of_le (show (g9 : Int) ≤ b.p by omega) with z | z
    · exact absurd g (pb.2 g9 (by omega) z m1)
    · exact z
  have e2 : (g9 : Int) = c.p := by
    rcases Int.lt_or_eq_of_le (show (g9 : Int) ≤ c.p by omega) with z | z
    · exact absurd (fun n => by rw [← same, ← same]; exact g n) (pc.2 g9 (by omega) z m2)
    · exact z
  have ep : b.p = c.p := e1.symm.trans e2
  have et : b.ts = c.ts := asc_ext pb.1.up pc.1.up fun x => by
    constructor
    · intro hx
      have h0 := pb.1.low x hx
      have h1 := pb.1.high x hx
      exact (caught_in pc.1 h0 (by omega)).mp (by rw [← same]; exact (caught_in pb.1 h0 h1).mpr hx)
    · intro hx
      have h0 := pc.1.low x hx
      have h1 := pc.1.high x hx
      exact (caught_in pb.1 h0 (by omega)).mp (by rw [same]; exact (caught_in pc.1 h0 h1).mpr hx)
  cases b
  cases c
  cases ep
  cases et
  rfl
theorem plain_of {c b : Comb} (ob : b.Ok) (same : ∀ n, caught b n = caught c n) (h1 : b.p ≤ c.p) (h2 : c.p % b.p = 0) (h3 : ∀ q, 1 ≤ q → q < b.p → c.p % q = 0 → ¬ Per c q) : Plain b := by
  refine ⟨ob, fun q q1 qb qd per => h3 q q1 qb ?_ fun n => by rw [← same, ← same]; exact per n⟩
  have e1 := Int.mul_ediv_add_emod c.p b.p
  have e2 := Int.mul_ediv_add_emod b.p q
  rw [h2, Int.add_zero] at e1
  rw [qd, Int.add_zero] at e2
  rw [← e1, ← e2, Int.mul_assoc]
  exact Int.mul_emod_right _ _
theorem eqv_comb (b c : Comb) : PyData.eqv b.d c.d = true ↔ b = c := by
  have e : PyData.eqv b.d c.d = ((b.p == c.p) && (PyData.eqv (.list (b.ts.map PyData.int)) (.list (c.ts.map PyData.int)) && true)) := rfl
  rw [e, eqv_ints, Bool.and_true, Bool.and_eq_true, decide_eq_true_eq, beq_iff_eq]
  constructor
  · rintro ⟨h1, h2⟩
    cases b
    cases c
    cases h1
    cases h2
    rfl
  · rintro rfl
    exact ⟨rfl, rfl⟩
theorem eqv_dev (v w : Dv) : PyData.eqv v.d w.d = true ↔ v = w := by
  have e : PyData.eqv v.d w.d = (PyData.eqv v.1.d w.1.d && (PyData.eqv v.2.d w.2.d && true)) := rfl
  rw [e, Bool.and_true, Bool.and_eq_true, eqv_comb, eqv_comb]
  exact ⟨fun ⟨h1, h2⟩ => Prod.ext h1 h2, fun h => ⟨congrArg Prod.fst h, congrArg Prod.snd h⟩⟩
def AlkS (v : Dv) (s : Sv) (w : Dv) (t : Sv) : Prop := (∀ n, caught v.1 (n + s.1) = caught w.1 (n + t.1)) ∧ ∀ n, caught v.2 (n + (s.1 - s.2)) = caught w.2 (n + (t.1 - t.2))
end PD

/-! PD93: a comb seen from elsewhere -/
namespace PD
open PySem PySem.Spec PyProof.Rows L2 Evl
theorem shift_key {p : Int} (d y t : Int) (t0 : 0 ≤ t) (t1 : t < p) : (t - d) % p = y % p ↔ (y + d) % p = t := by
  constructor
  · intro h
    obtain ⟨k, e⟩ := mod_eq_shift h
    rw [show y + d = t + p * k by omega, Int.add_mul_emod_self_left]
    exact Int.emod_eq_of_lt t0 t1
  · intro h
    have e := Int.emod_add_mul_ediv (y + d) p
    rw [h] at e
    rw [show y = t - d + p * ((y + d) / p) by omega, Int.add_mul_emod_self_left]
theorem shift_ok {c : Comb} (ok : c.Ok) (d : Int) {S : List Int} (pm : S.Perm (c.ts.map fun t => (t - d) % c.p)) (up : S.Pairwise (· ≤ ·)) :
    (Comb.mk c.p S).Ok ∧ ∀ y, caught (Comb.mk c.p S) y = caught c (y + d) := by
  have p0 : 0 < c.p := by have := ok.p1; omega
  have mem : ∀ z, z ∈ S ↔ ∃ t ∈ c.ts, (t - d) % c.p = z := fun z => by
    rw [pm.mem_iff, List.mem_map]
  have nd0 : (c.ts.map fun t => (t - d) % c.p).Pairwise (· ≠ ·) := by
    rw [List.pairwise_map]
    refine List.Pairwise.imp_of_mem ?_ ok.up
    intro t t' ht ht' lt e
    have h1 := (shift_key (p := c.p) d (t' - d) t (ok.low t ht) (ok.high t ht)).mp e
    have h2 := (shift_key (p := c.p) d (t' - d) t' (ok.low t' ht') (ok.high t' ht')).mp rfl
    omega
  have nd : S.Pairwise (· ≠ ·) := (pm.symm.pairwise nd0 fun h => Ne.symm h)
  refine ⟨⟨ok.p1, ok.p24, fun e => ?_, fun z hz => ?_, fun z hz => ?_, ?_⟩, fun y => ?_⟩
  · obtain ⟨t, r, et⟩ : ∃ t r, c.ts = t :: r := by
      cases q : c.ts with
      | nil => exact absurd q ok.ne
      | cons a r => exact ⟨a, r, rfl⟩
    have : (t - d) % c.p ∈ S := (mem _).mpr ⟨t, by rw [et]; exact List.mem_cons_self, rfl⟩
    have e' : S = [] := e
    rw [e'] at this
    cases this
  · obtain ⟨t, _, rfl⟩ := (mem z).mp hz
    exact Int.emod_nonneg _ (by omega)
  · obtain ⟨t, _, rfl⟩ := (mem z).mp hz
    exact Int.emod_lt_of_pos _ p0
  · exact (up.and nd).imp fun ⟨a, b⟩ => by
      have a' := a
      have b' := b
      omega
  · unfold caught
    show decide (y % c.p ∈ S) = decide ((y + d) % c.p ∈ c.ts)
    congr 1
    refine propext ((mem _).trans ⟨fun ⟨t, ht, e⟩ => ?_, fun h => ⟨_, h, ?_⟩⟩)
    · rw [(shift_key (p := c.p) d y t (ok.low t ht) (ok.high t ht)).mp e]
      exact ht
    · exact (shift_key (p := c.p) d y _ (ok.low _ h) (ok.high _ h)).mpr rfl
end PD

/-! PD94: new things handed back from within a loop; new plain combs -/
namespace PD
open PySem PySem.Spec PyProof.Rows L2 Evl
section
variable {c : Cn} {K : PySem.W.Frag} {ds : DS} {pl : List D} {t u : TS} {D' : Ends} {G0 : Hp} {E : EE} {tr : TA} {te : TE} {tt : TT}
theorem wsk_if (h : WT c tt ds pl fun b p1 => if b = true then WSK c t ds p1 D' G0 else WSK c u ds p1 D' G0) : WSK c (tIfS tt t u) ds pl D' G0 := fun G σ H hs e =>
  h G σ H hs _ fun b G2 H2 p2 h2 e2 g2 => by
    cases b with
    | true => exact (show WSK c t ds p2 D' G0 from g2) G2 σ H2 h2 (e.trans e2)
    | false => exact (show WSK c u ds p2 D' G0 from g2) G2 σ H2 h2 (e.trans e2)
end
/-! ### promises of new combs and devices -/
def underF : List D → (Hp → V → Prop) → Prop := fun ds k => ∃ a : List Int × Int, ds = [.list (a.1.map PyData.int), .int a.2] ∧ a.1.length ≤ 24 ∧ ∀ la, k (one la (.lst ((under a.1 a.2).map V.int))) (.ref la)
def PlC (c b : Comb) : Prop := b.Ok ∧ (∀ n, caught b n = caught c n) ∧ b.p ≤ c.p ∧ c.p % b.p = 0 ∧ ∀ q, 1 ≤ q → q < b.p → c.p % q = 0 → ¬ Per c q
def plainF : List D → (Hp → V → Prop) → Prop := fun ds k => ∃ c : Comb, ds = [c.d] ∧ c.Ok ∧ ∀ (b : Comb) a la, a ≠ la → PlC c b → k (combP b a la) (.ref a)
def shiftF : List D → (Hp → V → Prop) → Prop := fun ds k => ∃ z : Comb × Int, ds = [z.1.d, .int z.2] ∧ z.1.Ok ∧ ∀ (b : Comb) a la, a ≠ la → (Plain b ∧ ∀ n, caught b n = caught z.1 (n + z.2)) → k (combP b a la) (.ref a)
def PlD (v : Dv) (s : Sv) (b : Dv) : Prop := Plain b.1 ∧ Plain b.2 ∧ (∀ n, caught b.1 n = caught v.1 (n + s.1)) ∧ ∀ n, caught b.2 n = caught v.2 (n + (s.1 - s.2))
def devF (pre : Dv → Sv → Prop) : List D → (Hp → V → Prop) → Prop := fun ds k => ∃ z : Dv × Sv, ds = [z.1.d, z.2.d] ∧ pre z.1 z.2 ∧ ∀ (b : Dv) t a e la lb, Mir (b.2, b.1) t a e la lb → PlD z.1 z.2 b → k (mirP (b.2, b.1) t a e la lb) (.ref t)
end PD

/-! PD95: rows of catches; the least places that look alike -/
namespace PD
open PySem PySem.Spec PyProof.Rows L2 Evl
def catL (c : Comb) (s : Int) : List Bool := (List.range c.p.toNat).map fun (k : Nat) => caught c (s + (k : Int))
def begT (c : Comb) (s w : Int) : List Int := ((List.range w.toNat).filter fun (k : Nat) => caught c (s + (k : Int))).map fun (k : Nat) => (k : Int)
end PD

/-! PD96: rows of catches as data -/
namespace PD
open PySem PySem.Spec PyProof.Rows L2 Evl
end PD

/-! PD97: the least pitch is there -/
namespace PD
open PySem PySem.Spec PyProof.Rows L2 Evl
end PD

/-! PD98: combs that come again; plain combs at hand -/
namespace PD
open PySem PySem.Spec PyProof.Rows L2 Evl
def rptT (c : Comb) : Nat → List Int
  | 0 => []
  | i + 1 => rptT c i ++ c.ts.map fun t => (i : Int) * c.p + t
theorem same_by {b c : Comb} (p0 : 0 < b.p) (e : c.p = b.p) (d : Int) (h : ∀ k : Nat, k < b.p.toNat → caught b (k : Int) = caught c ((k : Int) + d)) (n : Int) : caught b n = caught c (n + d) := by
  have r0 := Int.emod_nonneg n (show b.p ≠ 0 by omega)
  have r1 := Int.emod_lt_of_pos n p0
  have z := h (n % b.p).toNat (by omega)
  rw [show (((n % b.p).toNat : Nat) : Int) = n % b.p by omega, caught_mod] at z
  rw [z]
  have e1 := Int.emod_add_mul_ediv n b.p
  have := caught_up (c := c) (n % b.p + d) (n / b.p)
  rw [e] at this
  rw [← this]
  congr 1
  omega
abbrev tenA : Comb := ⟨10, [0, 3]⟩
abbrev tenB : Comb := ⟨10, [0]⟩
abbrev tenC : Comb := ⟨10, [0, 7]⟩
abbrev tenD : Comb := ⟨10, [7]⟩
abbrev five : Comb := ⟨5, [0]⟩
theorem okA : tenA.Ok := ⟨by decide, by decide, by decide, by decide, by decide, by decide⟩
theorem okB : tenB.Ok := ⟨by decide, by decide, by decide, by decide, by decide, by decide⟩
theorem okC : tenC.Ok := ⟨by decide, by decide, by decide, by decide, by decide, by decide⟩
theorem okD' : tenD.Ok := ⟨by decide, by decide, by decide, by decide, by decide, by decide⟩
theorem okF : five.Ok := ⟨by decide, by decide, by decide, by decide, by decide, by decide⟩
end PD

/-! PD99: three in one assignment, all data -/
namespace PD
open PySem PySem.Spec PyProof.Rows L2 Evl
theorem ws_par3 {c : Cn} {ds : DS} {pl : List D} {E : EE} {tr : TA} {i j l : Nat} (h : WA c tr ds pl fun xs p1 => ∃ x y z, xs = [x, y, z] ∧ E.nx (((ds.set i (some (.d x))).set j (some (.d y))).set l (some (.d z))) p1) : WS c (tPar3 i j l tr) ds pl E := fun G σ H hs D' f =>
  h G σ H hs _ fun vs G1 H1 xs p1 h1 e1 f1 ⟨x, y, z, e, g1⟩ => by
    subst e
    cases f1 with
    | cons r1 b =>
      cases b with
      | cons r2 b =>
        cases b with
        | cons r3 b =>
          cases b
          refine ⟨_, _, _, rfl, ?_⟩
          exact f.nx G1 _ H1 _ p1 (((h1.set (w := .d x) r1 fun xs z => by cases z).set (w := .d y) r2 fun xs z => by cases z).set (w := .d z) r3 fun xs z => by cases z) e1 g1
end PD

/-! PD100: two bars over one hand -/
namespace PD
open PySem PySem.Spec PyProof.Rows L2 Evl
def pl3 (v : Dv) (s : Sv) (g : Int) : D := .tuple [.int (plc v s).1, .int (plc v s).2, .int g]
def gapM (v : Dv) (s : Sv) (g : Int) (ms : List Int) : Int := (mvs v (s.1 + g, s.2) ms).1 - (mvs v s ms).1
end PD

/-! PD101: a dict of places that a loop fills; rounds of two bars -/
namespace PD
open PySem PySem.Spec PyProof.Rows L2 Evl
abbrev pkN (ks : List Int) : List Key := ks.map Sum.inl
section
variable {c : Cn} {K : PySem.W.Frag} {ds : DS} {pl : List D} {t u body : TS} {D' : Ends} {G0 : Hp} {E : EE} {tr : TA} {te : TE} {tt : TT} {Φ : W → List D → Prop}
end
/-! ### rounds of two bars -/
section
variable {v : Dv} {ms : List Int}
def gapR (v : Dv) (ms : List Int) (s : Sv) (g : Int) (i : Nat) : Int := (rp v ms (s.1 + g, s.2) i).1 - (rp v ms s i).1
def plcK (v : Dv) (ms : List Int) (s : Sv) (g : Int) (i : Nat) : List Int := [(plc v (rp v ms s i)).1, (plc v (rp v ms s i)).2, gapR v ms s g i]
def JoinR (v : Dv) (ms : List Int) (s : Sv) (g : Int) : Option Nat → Prop
  | some n => gapR v ms s g n = 0 ∧ ∀ i, i < n → gapR v ms s g i ≠ 0
  | none => ∀ i, gapR v ms s g i ≠ 0
def cod3 (v : Dv) (ms : List Int) (s : Sv) (g : Int) (i : Nat) : Int := ((gapR v ms s g i - lcmV v * (g / lcmV v)) * 24 + (plc v (rp v ms s i)).1) * 24 + (plc v (rp v ms s i)).2
end
end PD

/-! PD102: a test that hands back; the last statement of a loop's body -/
namespace PD
open PySem PySem.Spec PyProof.Rows L2 Evl
section
variable {c : Cn} {K : PySem.W.Frag} {ds : DS} {pl : List D} {t u : TS} {D' D2 : Ends} {G0 : Hp} {tt : TT}
end
end PD

/-! PD103: slacks within their list -/
namespace PD
open PySem PySem.Spec PyProof.Rows L2 Evl
theorem sl_mem' {c : Comb} (ok : c.Ok) (n : Int) : slk c n ∈ sl c := by
  have p1 := ok.p1
  have r0 := Int.emod_nonneg n (show c.p ≠ 0 by omega)
  have r1 := Int.emod_lt_of_pos n (show 0 < c.p by omega)
  have e := Int.emod_add_mul_ediv n c.p
  have f := flo_shift ok (n % c.p) (n / c.p)
  rw [e] at f
  refine List.mem_map.mpr ⟨(n % c.p).toNat, List.mem_range.mpr (by omega), ?_⟩
  rw [show (((n % c.p).toNat : Nat) : Int) = n % c.p by omega]
  unfold slk
  omega
theorem sl_rng {c : Comb} (ok : c.Ok) {y : Int} (h : y ∈ sl c) : 0 ≤ y ∧ y < 24 := by
  obtain ⟨r, _, rfl⟩ := List.mem_map.mp h
  have := slk_nn ok (r : Int)
  have := slk_lt ok (r : Int)
  have := ok.p24
  exact ⟨by omega, by omega⟩
end PD

/-! PD104: moves that join -/
namespace PD
open PySem PySem.Spec PyProof.Rows L2 Evl
def JoinM (v : Dv) (s : Sv) (g : Int) : Option (List Int) → Prop
  | some ms => gapM v s g ms = 0 ∧ (∀ m ∈ ms, m ≠ 0) ∧ ∀ ns : List Int, (∀ m ∈ ns, m ≠ 0) → gapM v s g ns = 0 → ms.length ≤ ns.length
  | none => ∀ ns : List Int, (∀ m ∈ ns, m ≠ 0) → gapM v s g ns ≠ 0
def oL : Option (List Int) → D
  | some ms => .list (ms.map PyData.int)
  | none => .none
end PD

/-! PD105: single moves enough -/
namespace PD
open PySem PySem.Spec PyProof.Rows L2 Evl
section
variable {v : Dv}
end
end PD

/-! PD106: gaps behind lists of moves; lists of single moves enough -/
namespace PD
open PySem PySem.Spec PyProof.Rows L2 Evl
section
variable {v : Dv}
def Single (A B : Nat) (m : Int) : Prop := (∃ k : Nat, k < A ∧ m = 1 + (k : Int)) ∨ ∃ k : Nat, k < B ∧ m = -(1 + (k : Int))
theorem Single.nz {A B : Nat} {m : Int} (h : Single A B m) : m ≠ 0 := by
  rcases h with ⟨k, _, e⟩ | ⟨k, _, e⟩ <;> omega
structure Lev (v : Dv) (A B : Nat) (s : Sv) (g : Int) (n : Nat) (P : (Int × Int) × Int) : Prop where
  ex : ∃ ms : List Int, ms.length = n ∧ (∀ m ∈ ms, Single A B m) ∧ (plc v (mvs v s ms), gapM v s g ms) = P ∧ gapM v s g ms < lcmV v
  least : ∀ ms : List Int, ms.length < n → (∀ m ∈ ms, Single A B m) → (plc v (mvs v s ms), gapM v s g ms) ≠ P
end
end PD

/-! PD107: {place: value}, its key a tuple -/
namespace PD
open PySem PySem.Spec PyProof.Rows L2 Evl
def tDisp1T (tk tv : TE) : TE := fun σ H Q => ∀ p, H p = none → tPairs [(tk, tv)] σ (upd H p (.dT [])) fun ps H2 => H2 p = some (.dT []) ∧ ∃ b k v, ps = [(V.ref b, v)] ∧ H2 b = some (.tup (k.map kV)) ∧ Q (.ref p) (upd H2 p (.dT [(k, v)]))
end PD

/-! PD108: the search by levels: each level from the one ahead, the first gap of 0 is the least -/
namespace PD
open PySem PySem.Spec PyProof.Rows L2 Evl
section
variable {v : Dv}
def pOf (v : Dv) (s : Sv) (g : Int) (ms : List Int) : (Int × Int) × Int := (plc v (mvs v s ms), gapM v s g ms)
end
end PD

/-! PD109: dicts of places whose values bear data: read, written, loops that see what is there -/
namespace PD
open PySem PySem.Spec PyProof.Rows L2 Evl
section
variable {c : Cn} {K : PySem.W.Frag} {ds : DS} {pl : List D} {t u body : TS} {D' : Ends} {G0 : Hp} {E : EE}
end
end PD

/-! PD110: the promise of a def that reads the way back out of a dict of places -/
namespace PD
open PySem PySem.Spec PyProof.Rows L2 Evl
inductive Bk (G : Hp) (kvs : List (List Key × V)) : List Int → List Int → Prop where
  | nil {ks : List Int} {x : V} (h : valV kvs (pkN ks) = some x) (r : R G x .none) : Bk G kvs ks []
  | cons {ks ks' : List Int} {m : Int} {ms : List Int} {x : V} (h : valV kvs (pkN ks) = some x) (r : R G x (.tuple [.tuple (ks'.map PyData.int), .int m])) (t : Bk G kvs ks' ms) : Bk G kvs ks (m :: ms)
def spBack : Sp := fun vs H Q _ => ∃ (G : Hp) (p : Addr) (kvs : List (List Key × V)) (ks ms : List Int) (vp : V), vs = [.ref p, vp] ∧ Ex G H ∧ G p = none ∧ H p = some (.dT kvs) ∧ R G vp (.tuple (ks.map PyData.int)) ∧ Bk G kvs ks ms ∧ ms.length ≤ 400000 ∧
  ∀ v G' H', Ex H H' → Ex G' H' → Ex G G' → (∀ a o, H a = some o → G a = none → G' a = none) → R G' v (.list (ms.reverse.map PyData.int)) → Q v H'
section
variable {P : Program} {w : World} {K : PySem.W.Frag} {mg : Str → Option Value} {base : Heap} {k : Nat} {f : Addr} {fd : FuncData} {ps : List Str}
end
end PD

/-! PD111: while, its invariant sees what is there; the way back, step by step -/
namespace PD
open PySem PySem.Spec PyProof.Rows L2 Evl
section
variable {c : Cn} {ds : DS} {pl : List D} {t u body : TS} {D' : Ends} {G0 : Hp}
end
end PD

/-! PD112: xs[::-1] of an owned list -/
namespace PD
open PySem PySem.Spec PyProof.Rows L2 Evl
end PD

/-! PD113: the last statement of a body, as one ahead of nothing -/
namespace PD
open PySem PySem.Spec PyProof.Rows L2 Evl
end PD

/-! PD114: what the way back hands back -/
namespace PD
open PySem PySem.Spec PyProof.Rows L2 Evl
section
variable {c : Cn} {ds : DS} {pl : List D} {D' : Ends} {G0 : Hp} {E : EE} {Ek : XK}
end
end PD

/-! PD115: for over a list of data beside a dict of places, the invariant sees what is there -/
namespace PD
open PySem PySem.Spec PyProof.Rows L2 Evl
section
variable {c : Cn} {K : PySem.W.Frag} {ds : DS} {pl : List D} {t u : TS} {D' : Ends} {G0 : Hp}
end
end PD

/-! PD116: an owned list that is changed no more: from now on data -/
namespace PD
open PySem PySem.Spec PyProof.Rows L2 Evl
section
variable {c : Cn} {ds : DS} {pl : List D} {t u : TS} {D' : Ends} {G0 : Hp} {E : EE}
end
end PD

/-! PD117: places of the search are few -/
namespace PD
open PySem PySem.Spec PyProof.Rows L2 Evl
section
variable {v : Dv}
def Rng (v : Dv) (P : (Int × Int) × Int) : Prop := 0 ≤ P.1.1 ∧ P.1.1 < 24 ∧ 0 ≤ P.1.2 ∧ P.1.2 < 24 ∧ 0 ≤ P.2 ∧ P.2 < lcmV v
end
end PD

/-! PD118: the state of the search; a place in a dict, as a test -/
namespace PD
open PySem PySem.Spec PyProof.Rows L2 Evl
section
variable {v : Dv}
def kn (P : (Int × Int) × Int) : List Int := [P.1.1, P.1.2, P.2]
def pD (P : (Int × Int) × Int) : D := .tuple ((kn P).map PyData.int)
def stp (v : Dv) (P : (Int × Int) × Int) (m : Int) : (Int × Int) × Int := pOf v (P.1.1, P.1.1 - P.1.2) P.2 [m]
structure Sr (v : Dv) (A B : Nat) (s : Sv) (g : Int) (n : Nat) (G : Hp) (kvs : List (List Key × V)) (L Lt : List ((Int × Int) × Int)) : Prop where
  nd : L.Nodup
  len : kvs.length = L.length
  keys : ∀ P, P ∈ L ↔ (valV kvs (pkN (kn P))).isSome = true
  ways : ∀ P, P ∈ L → ∃ ms : List Int, ms.length ≤ n + 1 ∧ (∀ m ∈ ms, Single A B m) ∧ pOf v s g ms.reverse = P ∧ Lev v A B s g ms.length P ∧ Bk G kvs (kn P) ms
  all : ∀ k P, k ≤ n → Lev v A B s g k P → P ∈ L
  lat : ∀ P, P ∈ Lt ↔ P ∈ L ∧ Lev v A B s g (n + 1) P
end
section
variable {c : Cn} {ds : DS} {pl : List D}
end
end PD

/-! PD119: ranges with ends of any size -/
namespace PD
open PySem PySem.Spec PyProof.Rows L2 Evl
def FarIt (it : Addr) (lo : Int) (n : Nat) (i : Nat) (h : Heap) : Prop := IsLongIter h it (lo + (i : Nat) * 1) ((n : Int) - (i : Nat)) 1
def iRngF (ta : TA) : TI := fun σ H R => ta σ H fun vs H1 => ∃ i j : Int, vs = [.int i, .int j] ∧ R (Itr i (j - i).toNat) H1
section
variable {c : Cn} {K : PySem.W.Frag} {ds : DS} {pl : List D} {Φ : W → List D → Prop} {te : TE} {tr : TA} {tt : TT} {E : EE} {t : TS}
end
end PD

/-! PD120: four names at once (a list, None, a list that is owned, a number); a gap of either sign -/
namespace PD
open PySem PySem.Spec PyProof.Rows L2 Evl
section
variable {v : Dv} {ms : List Int}
end
end PD

/-! PD121: rounds that join, told twice -/
namespace PD
open PySem PySem.Spec PyProof.Rows L2 Evl
section
variable {v : Dv} {ms : List Int}
end
end PD

/-! PD122: the narrow device of the joining laws -/
namespace PD
open PySem PySem.Spec PyProof.Rows L2 Evl
def narV : Dv := (⟨3, [0]⟩, ⟨5, [0]⟩)
end PD

/-! PD123: joined within a bound, by a table of all places -/
namespace PD
open PySem PySem.Spec PyProof.Rows L2 Evl
noncomputable def allB (f : Nat → Bool) (n : Nat) : Bool := Nat.rec true (fun k ih => and (f k) ih) n
def tS (T x : Nat) : Nat := Nat.mod (Nat.shiftRight T (Nat.mul 4 x)) 16
structure Tb where
  p : Nat
  q : Nat
  L : Nat
  T1 : Nat
  T2 : Nat
  e : Nat
def Tb.en (b : Tb) (h l g : Nat) : Nat := Nat.mod (Nat.shiftRight b.e (Nat.mul 10 (Nat.add (Nat.mul (Nat.add (Nat.mul g b.p) h) b.q) l))) 1024
def Tb.rk (b : Tb) (h l g : Nat) : Nat := Nat.div (b.en h l g) 32
def Tb.up (b : Tb) (h l g m : Nat) (k : Nat → Nat → Nat → Bool) : Bool :=
  k (Nat.mod (Nat.add h (Nat.sub m (tS b.T2 l))) b.p) (Nat.mod (Nat.sub (Nat.add l b.q) (Nat.sub m (Nat.sub m (tS b.T2 l)))) b.q) (Nat.sub (Nat.add g (Nat.sub m (tS b.T2 (Nat.mod (Nat.add l g) b.q)))) (Nat.sub m (tS b.T2 l)))
def Tb.dn (b : Tb) (h l g n : Nat) (k : Nat → Nat → Nat → Bool) : Bool :=
  k (Nat.mod (Nat.sub (Nat.add h b.p) (Nat.sub n (Nat.sub n (tS b.T1 h)))) b.p) (Nat.mod (Nat.add l (Nat.sub n (tS b.T1 h))) b.q) (Nat.sub (Nat.add g (Nat.sub n (Nat.sub n (tS b.T1 h)))) (Nat.sub n (Nat.sub n (tS b.T1 (Nat.mod (Nat.add h g) b.p)))))
def Tb.nev (b : Tb) (h l g : Nat) : Bool := or (Nat.ble b.L g) (and (Nat.ble 1 g) (Nat.beq (b.rk h l g) 31))
def Tb.les (b : Tb) (r h l g : Nat) : Bool := or (Nat.beq g 0) (and (Nat.ble (Nat.add g 1) b.L) (Nat.ble (Nat.add (b.rk h l g) 1) r))
def Tb.hd (b : Tb) (h l : Nat) : Bool := or (Nat.beq (tS b.T1 h) 0) (Nat.beq (tS b.T2 l) 0)
noncomputable def Tb.ok1 (b : Tb) (h l g : Nat) : Bool :=
  cond (Nat.beq (b.rk h l g) 31) (allB (fun m => or (Nat.beq m 0) (and (b.up h l g m b.nev) (b.dn h l g m b.nev))) (Nat.add b.p b.q))
    (cond (Nat.ble (Nat.mod (b.en h l g) 32) 15) (and (Nat.ble 1 (Nat.mod (b.en h l g) 32)) (b.up h l g (Nat.mod (b.en h l g) 32) (b.les (b.rk h l g))))
      (and (Nat.ble 17 (Nat.mod (b.en h l g) 32)) (b.dn h l g (Nat.sub (Nat.mod (b.en h l g) 32) 16) (b.les (b.rk h l g)))))
noncomputable def Tb.chk (b : Tb) : Bool :=
  allB (fun h => allB (fun l => cond (b.hd h l) (allB (fun g => or (Nat.beq g 0) (cond (b.hd (Nat.mod (Nat.add h g) b.p) (Nat.mod (Nat.add l g) b.q)) (b.ok1 h l g) true)) b.L) true) b.q) b.p
structure Rp (b : Tb) (v : Dv) (a c : Int) : Prop where
  ok : v.Ok
  p : v.1.p = b.p
  q : v.2.p = b.q
  f : ∀ x, slk v.1 x = (tS b.T1 ((x + a) % b.p).toNat : Nat)
  g : ∀ x, slk v.2 x = (tS b.T2 ((x + c) % b.q).toNat : Nat)
  L : lcmV v = b.L
structure Ab (b : Tb) (a c : Int) (s : Sv) (g : Int) (h l k : Nat) : Prop where
  h : (s.1 + a) % (b.p : Int) = h
  l : (lf s + c) % (b.q : Int) = l
  k : g = k
section
variable {b : Tb} {v : Dv} {a c : Int} {s : Sv} {g : Int} {h l k : Nat}
end
end PD

/-! PD124: two bars, whichever is lower; rounds as moves; moves that join, one by one -/
namespace PD
open PySem PySem.Spec PyProof.Rows L2 Evl
section
variable {v : Dv}
end
end PD

/-! PD125: two bars, upside down -/
namespace PD
open PySem PySem.Spec PyProof.Rows L2 Evl
def btwL (v : Dv) (a low high : Int) : List Int := ((List.range (high - low).toNat).map fun (k : Nat) => low + 1 + (k : Int)).filter fun h => held v (h, a)
def lstU (u : Dv) (e : Int) (ms : List Int) (h : Int) : Int := 0 - (mvs u (0 - h, 0 - e) ms.reverse).1
def ledL (u : Dv) (e : Int) (ms : List Int) (x y : Int) (hs : List Int) : List Int := hs.filter fun h => decide (x < lstU u e ms h) && decide (lstU u e ms h ≤ y)
section
variable {v u : Dv} (o : Ovr 0 v u) (ok : v.Ok) (ok' : u.Ok)
include o ok ok'
end
section
variable {v u : Dv} (o : Ovr 0 v u) (ok : v.Ok) (ok' : u.Ok) (e1 : u.1.p = v.1.p) (e2 : u.2.p = v.2.p) {ms : List Int} (s0 : ms.sum = 0)
include o ok ok' e1 e2 s0
end
end PD

/-! PD126: combs of one tooth: distances fall to multiples -/
namespace PD
open PySem PySem.Spec PyProof.Rows L2 Evl
def kF : Nat → Nat → Nat → Nat → Option Nat
  | 0, _, _, _ => none
  | n + 1, f, s, g => if g = 0 then some 0 else (kF n s f (g / f * f)).map (· + 1)
def kOk (p q g : Nat) : Bool := g % p != 0 || decide (Nat.lcm p q ≤ g) || (match kF 41 q p g with | some c => decide (c ≤ 40) | none => false)
section
variable {v : Dv} (ok : v.Ok) {t1 t2 : Int} (h1 : v.1.ts = [t1]) (h2 : v.2.ts = [t2])
include ok h1 h2
end
end PD

/-! PD127: list(range(a, b)), states compared -/
namespace PD
open PySem PySem.Spec PyProof.Rows L2 Evl
section
variable {c : Cn} {ds : DS} {pl : List D} {Φ : W → List D → Prop} {ta tb : TE}
def rgI (a b : Int) : List Int := (List.range (b - a).toNat).map fun (i : Nat) => a + (i : Int)
end
end PD

/-! PD128: devices of one tooth at 0 -/
namespace PD
open PySem PySem.Spec PyProof.Rows L2 Evl
def zeroV (p q : Nat) : Dv := (⟨p, [0]⟩, ⟨q, [0]⟩)
end PD

/-! PD129: defs that hand back a new list, or None -/
namespace PD
open PySem PySem.Spec PyProof.Rows L2 Evl
def noV (H G' H' : Hp) (v : V) : Option (List D) → Prop
  | none => v = .non
  | some xs => ∃ p us, v = .ref p ∧ H p = none ∧ G' p = none ∧ H' p = some (.lst us) ∧ RA G' us xs
def spNo (F : List D → (Option (List D) → Prop) → Prop) : Sp := fun vs H Q _ => ∃ G ds, Ex G H ∧ RA G vs ds ∧ F ds fun o => ∀ v G' H', Ex H H' → Ex G' H' → Ex G G' → (∀ a o, H a = some o → G a = none → G' a = none) → noV H G' H' v o → Q v H'
def noF {A : Type} (enc : A → List D) (pre : A → Prop) (post : A → Option (List D) → Prop) : List D → (Option (List D) → Prop) → Prop := fun ds k => ∃ a, ds = enc a ∧ pre a ∧ ∀ o, post a o → k o
def noW : Option (List D) → W
  | none => .d .none
  | some xs => .o xs
def noD : Option (List D) → D
  | none => .none
  | some xs => .list xs
abbrev rtNo (k : Option (List D) → Prop) : W → List D → Prop := fun w _ => match w with
  | .d .none => k none
  | .o xs => k (some xs)
  | _ => False
section
variable {c : Cn} {K : PySem.W.Frag} {ds : DS} {pl : List D} {tr : TA} {Φ : W → List D → Prop} {Ek : XK} {A : Type} {enc : A → List D} {pre : A → Prop} {post : A → Option (List D) → Prop}
theorem we_noD (a : A) (ha : WA c tr ds pl fun xs p1 => xs = enc a ∧ pre a ∧ ∀ o, post a o → Φ (.d (noD o)) p1) : WE c (tCall (spNo (noF enc pre post)) [] Ek tr) ds pl Φ := fun G σ H hs Q q => ha G σ H hs _ fun vs G1 H1 xs p1 h1 e1 f1 ⟨g1, g2, g3⟩ => by
  rw [List.append_nil]
  refine ⟨G1, xs, h1.sub, f1, a, g1, g2, fun o po v G' H' a1 a2 a3 a4 a5 => ?_⟩
  match o, a5 with
  | none, a5 =>
    have a5' : v = .non := a5
    subst a5'
    exact q .non G' H' (.d .none) p1 (h1.ext a1 a2 a3 a4) (e1.trans a3) R.non (g3 _ po)
  | some ys, ⟨p, us, ev, b1, b2, b3, b4⟩ =>
    subst ev
    have s2 : Ex G' (upd G' p (.lst us)) := Ex.new b2
    refine q (.ref p) (upd G' p (.lst us)) H' (.d (.list ys)) p1 (h1.ext a1 (fun a o z => ?_) (a3.trans s2) fun a o z1 z2 => ?_) (e1.trans (a3.trans s2)) (.lst upd_same (b4.up s2)) (g3 _ po)
    · by_cases z' : a = p
      · subst z'; rw [upd_same] at z; cases z; exact b3
      · rw [upd_ne z'] at z; exact a2 _ _ z
    · rw [upd_ne (fun z' : a = p => by rw [z', b1] at z1; cases z1)]
      exact a4 _ _ z1 z2
end
section
variable {P : Program} {w : World} {K : PySem.W.Frag} {mg : Str → Option Value} {base : Heap} {k : Nat} {f : Addr} {fd : FuncData} {ps : List Str}
theorem fgNo {F : List D → (Option (List D) → Prop) → Prop} {x qual : Str} {st : Stmt} {N : List Str} (Fn : Fun K x qual st f fd) (S : FnScope N ps (defScope st)) (len : ∀ ds k, F ds k → ds.length = ps.length)
    (go : ∀ (cdv : Value) (B : Around) (fr : List Env) (s : Shared) (H : Hp) (E : XK), B.guards = some [] → Room k (B.deeper (envOfC qual (defScope st) s.heap.objs.size f cdv)) → ∃ t, PSs (cxOf CX0 P w K mg base N qual (defScope st) f cdv B fr s H E).nox (defBody st) t ∧
      ∀ c ds (k : Option (List D) → Prop), c.pool = none → F ds k → WS c t (slotsD N ds) [] ⟨fun _ _ => False, rtNo k, fun _ _ => False, fun _ _ => False⟩) : FG P w K mg base (k + 1) f fd ps (spNo F) := by
  refine fg_of Fn S (fun vs H Q E h => ?_) fun cdv B fr s H vs Q E hg hr h => ?_
  · obtain ⟨G, ds, _, r, h⟩ := h
    rw [r.len]
    exact len _ _ h
  · obtain ⟨t, der, body⟩ := go cdv B fr s H E hg hr
    refine ⟨t, der, ?_⟩
    obtain ⟨G, ds, s0, r, h⟩ := h
    refine body ⟨H, fun a => G a = none ∧ ∃ o, H a = some o, none, fun _ => none⟩ ds _ rfl h G _ H (hs_start s0 r) _ ⟨?_, ?_, ?_, ?_⟩
    · exact fun G' σ' H' ds' pl' h' e q => q.elim
    · intro v G' σ' H' ds' w' pl' h' e q g
      match w', q, g with
      | .d .none, q, g =>
        cases q
        exact g .non G' H' (fun a o z => h'.keep a o (fun y => by cases y) z) h'.sub e (fun a o z1 z2 => h'.gh a ⟨z2, o, z1⟩) rfl
      | .o y, ⟨p, us, ev, a1, a2, a3, a4, a5, a6, a7⟩, g =>
        exact g v G' H' (fun a o z => h'.keep a o (fun y => by cases y) z) h'.sub e (fun a o z1 z2 => h'.gh a ⟨z2, o, z1⟩) ⟨p, us, ev, a4, a3, a1, a2⟩
    · exact fun G' σ' H' ds' pl' h' e q => q.elim
    · exact fun G' σ' H' ds' pl' h' e q => q.elim
def spBackN : Sp := fun vs H Q _ => ∃ (G : Hp) (p : Addr) (kvs : List (List Key × V)) (ks ms : List Int) (vp : V), vs = [.ref p, vp] ∧ Ex G H ∧ G p = none ∧ H p = some (.dT kvs) ∧ R G vp (.tuple (ks.map PyData.int)) ∧ Bk G kvs ks ms ∧ ms.length ≤ 400000 ∧
  ∀ v G' H', Ex H H' → Ex G' H' → Ex G G' → (∀ a o, H a = some o → G a = none → G' a = none) → noV H G' H' v (some (ms.reverse.map PyData.int)) → Q v H'
end
section
variable {c : Cn} {ds : DS} {pl : List D} {D' : Ends} {G0 : Hp} {E : EE} {Ek : XK}
end
end PD

/-! PD130: rules for a search by layers: for with any target beside a dict, xs, d = e, {}, xs, n = [], n + 1 -/
namespace PD
open PySem PySem.Spec PyProof.Rows L2 Evl
section
variable {c : Cn} {K : PySem.W.Frag} {ds : DS} {pl : List D} {t u : TS} {D' : Ends} {G0 : Hp} {E : EE}
end
end PD

/-! PD131: a search by layers of heights: all places that so many single moves lead to -/
namespace PD
open PySem PySem.Spec PyProof.Rows L2 Evl
section
variable {v : Dv} {M : Nat} {palm x y : Int}
def kq (v : Dv) (q : Int × Int × Int) : (Int × Int) × Int := ((q.1 % v.1.p, (q.1 - q.2.2) % v.2.p), q.2.1 - q.1)
def triM (v : Dv) (palm x y : Int) (ns : List Int) : Int × Int × Int := ((mvs v (x, palm) ns).1, (mvs v (y, palm) ns).1, palm + ns.sum)
def Sgl (M : Nat) (ns : List Int) : Prop := ∀ m ∈ ns, Single M M m
def RN (v : Dv) (M : Nat) (palm x y : Int) (k : Nat) (P : (Int × Int) × Int) : Prop := ∃ ns : List Int, ns.length ≤ k ∧ Sgl M ns ∧ pOf v (x, palm) (y - x) ns = P
structure Bf (v : Dv) (M : Nat) (palm x y : Int) (n : Nat) (kvs : List (List Key × V)) (L : List ((Int × Int) × Int)) (qs : List (Int × Int × Int)) : Prop where
  nd : L.Nodup
  len : kvs.length = L.length
  keys : ∀ P, P ∈ L ↔ (valV kvs (pkN (kn P))).isSome = true
  got : ∀ P, P ∈ L → P.2 ≠ 0 ∧ RN v M palm x y n P
  all : ∀ P, RN v M palm x y n P → P ∈ L ∨ P = pOf v (x, palm) (y - x) []
  rep : ∀ q, q ∈ qs → ∃ ns : List Int, ns.length = n ∧ Sgl M ns ∧ q = triM v palm x y ns
  frn : ∀ P, RN v M palm x y n P → (∃ ns : List Int, ns.length < n ∧ Sgl M ns ∧ pOf v (x, palm) (y - x) ns = P) ∨ ∃ q, q ∈ qs ∧ kq v q = P
structure Bg (v : Dv) (M : Nat) (palm x y : Int) (n : Nat) (L : List ((Int × Int) × Int)) (kvs : List (List Key × V)) (L2 : List ((Int × Int) × Int)) (Lt : List (Int × Int × Int)) : Prop where
  nd : L2.Nodup
  len : kvs.length = L2.length
  keys : ∀ P, P ∈ L2 ↔ (valV kvs (pkN (kn P))).isSome = true
  sub : ∀ P, P ∈ L → P ∈ L2
  got : ∀ P, P ∈ L2 → P.2 ≠ 0 ∧ RN v M palm x y (n + 1) P
  new : ∀ P, P ∈ L2 → P ∈ L ∨ ∃ q, q ∈ Lt ∧ kq v q = P
  rep : ∀ q, q ∈ Lt → ∃ ns : List Int, ns.length = n + 1 ∧ Sgl M ns ∧ q = triM v palm x y ns
  cnt : L.length + Lt.length ≤ L2.length
end
end PD

/-! PD132: as few moves as join are no more than there are places -/
namespace PD
open PySem PySem.Spec PyProof.Rows L2 Evl
end PD

/-! PD133: for with any target over a tuple; a copy of an owned list -/
namespace PD
open PySem PySem.Spec PyProof.Rows L2 Evl
section
variable {c : Cn} {K : PySem.W.Frag} {ds : DS} {pl : List D} {t : TS} {E : EE}
end
end PD

/-! PD134: the search by layers as a function of its start: the same moves each time -/
namespace PD
open PySem PySem.Spec PyProof.Rows L2 Evl
abbrev Pp := ((Int × Int) × Int) × List Int
def stM (v : Dv) (q : Pp) (st : List Pp × List Pp) (m : Int) : List Pp × List Pp :=
  if (stp v q.1 m).2 < lcmV v ∧ stp v q.1 m ∉ st.1.map Prod.fst then (st.1 ++ [(stp v q.1 m, m :: q.2)], st.2 ++ [(stp v q.1 m, m :: q.2)]) else st
def stP (v : Dv) (SG : List Int) (st : List Pp × List Pp) (q : Pp) : List Pp × List Pp := SG.foldl (stM v q) st
def layS (v : Dv) (SG : List Int) (st : List Pp × List Pp) : List Pp × List Pp := st.2.foldl (stP v SG) (st.1, [])
def stN (v : Dv) (SG : List Int) (s : Sv) (g : Int) : Nat → List Pp × List Pp
  | 0 => ([(pOf v s g [], [])], [(pOf v s g [], [])])
  | n + 1 => layS v SG (stN v SG s g n)
def Jt (v : Dv) (SG : List Int) (s : Sv) (g : Int) : Option (List Int) → Prop
  | some ms => ∃ (n i : Nat) (q : Pp), (stN v SG s g n).2[i]? = some q ∧ q.1.2 = 0 ∧ (∀ (j : Nat) q', (stN v SG s g n).2[j]? = some q' → j < i → q'.1.2 ≠ 0) ∧ (∀ k, k < n → ∀ q', q' ∈ (stN v SG s g k).2 → q'.1.2 ≠ 0) ∧ ms = q.2.reverse
  | none => ∃ n : Nat, (stN v SG s g n).2 = [] ∧ ∀ k, k < n → ∀ q', q' ∈ (stN v SG s g k).2 → q'.1.2 ≠ 0
def SGl (A B : Nat) : List Int := (List.range A).map (fun (k : Nat) => 1 + (k : Int)) ++ (List.range B).map fun (k : Nat) => -(1 + (k : Int))
structure Szs (v : Dv) (A B : Nat) : Prop where
  a : ∀ n, slk v.2 n + v.1.p ≤ (A : Int)
  b : ∀ n, slk v.1 n + v.2.p ≤ (B : Int)
  a1 : ∃ n, slk v.2 n + v.1.p = (A : Int)
  b1 : ∃ n, slk v.1 n + v.2.p = (B : Int)
def JtS (v : Dv) (s : Sv) (g : Int) (o : Option (List Int)) : Prop := ∃ A B, Szs v A B ∧ Jt v (SGl A B) s g o
def Pt (v : Dv) (A B : Nat) (s : Sv) (g : Int) (G : Hp) (kvs : List (List Key × V)) (L : List Pp) : Prop := ∀ q ∈ L, Bk G kvs (kn q.1) q.2 ∧ pOf v s g q.2.reverse = q.1 ∧ ∀ m ∈ q.2, Single A B m
end PD

/-! PD135: the search goes as its function says -/
namespace PD
open PySem PySem.Spec PyProof.Rows L2 Evl
section
variable {v : Dv} {A B : Nat} {s : Sv} {g : Int} {SG : List Int}
def X1 (v : Dv) (A B : Nat) (s : Sv) (g : Int) (SG : List Int) (n : Nat) (G : Hp) (kvs : List (List Key × V)) (L Wt : List ((Int × Int) × Int)) : Prop :=
  ∃ L' Wt' : List Pp, stN v SG s g n = (L', Wt') ∧ L = L'.map Prod.fst ∧ Wt = Wt'.map Prod.fst ∧ Pt v A B s g G kvs L' ∧ (∀ q ∈ Wt', q ∈ L' ∧ q.2.length = n) ∧ ∀ k, k < n → ∀ q', q' ∈ (stN v SG s g k).2 → q'.1.2 ≠ 0
def X2 (v : Dv) (A B : Nat) (s : Sv) (g : Int) (SG : List Int) (n i : Nat) (G : Hp) (kvs : List (List Key × V)) (L Lt Wt : List ((Int × Int) × Int)) : Prop :=
  ∃ L0 Wt' L' Lt' : List Pp, stN v SG s g n = (L0, Wt') ∧ Wt = Wt'.map Prod.fst ∧ (Wt'.take i).foldl (stP v SG) (L0, []) = (L', Lt') ∧ L = L'.map Prod.fst ∧ Lt = Lt'.map Prod.fst ∧ Pt v A B s g G kvs L' ∧ (∀ q ∈ Wt', q ∈ L' ∧ q.2.length = n) ∧ (∀ q ∈ Lt', q ∈ L' ∧ q.2.length = n + 1) ∧
    ∀ k, k < n → ∀ q', q' ∈ (stN v SG s g k).2 → q'.1.2 ≠ 0
def X3 (v : Dv) (A B : Nat) (s : Sv) (g : Int) (SG : List Int) (n i j : Nat) (P : (Int × Int) × Int) (G : Hp) (kvs : List (List Key × V)) (L Lt Wt : List ((Int × Int) × Int)) : Prop :=
  ∃ (L0 Wt' L2 Lt2 L' Lt' : List Pp) (q : Pp), stN v SG s g n = (L0, Wt') ∧ Wt = Wt'.map Prod.fst ∧ Wt'[i]? = some q ∧ q.1 = P ∧ (Wt'.take i).foldl (stP v SG) (L0, []) = (L2, Lt2) ∧ (SG.take j).foldl (stM v q) (L2, Lt2) = (L', Lt') ∧ L = L'.map Prod.fst ∧ Lt = Lt'.map Prod.fst ∧ Pt v A B s g G kvs L' ∧
    (∀ q ∈ Wt', q ∈ L' ∧ q.2.length = n) ∧ (∀ q ∈ Lt', q ∈ L' ∧ q.2.length = n + 1) ∧ ∀ k, k < n → ∀ q', q' ∈ (stN v SG s g k).2 → q'.1.2 ≠ 0
variable {n i j : Nat} {P : (Int × Int) × Int} {G G' : Hp} {kvs : List (List Key × V)} {L Lt Wt : List ((Int × Int) × Int)}
theorem X1.go (h : X1 v A B s g SG n G kvs L Wt) : X2 v A B s g SG n 0 G kvs L [] Wt := by
  obtain ⟨L', Wt', a, b, c, d, f, z⟩ := h
  exact ⟨L', Wt', L', [], a, c, rfl, b, rfl, d, f, (fun q hq => nomatch hq), z⟩
theorem X2.go (h : X2 v A B s g SG n i G kvs L Lt Wt) (hP : Wt[i]? = some P) : X3 v A B s g SG n i 0 P G kvs L Lt Wt := by
  obtain ⟨L0, Wt', L', Lt', a, b, c, d, f, p, r⟩ := h
  have hP' := hP
  rw [b, List.getElem?_map] at hP'
  obtain ⟨q, hq, eq⟩ := Option.map_eq_some_iff.mp hP'
  exact ⟨L0, Wt', L', Lt', L', Lt', q, a, b, hq, eq, c, rfl, d, f, p, r⟩
end
end PD

/-! PD136: a pool made of a list written down -/
namespace PD
open PySem PySem.Spec PyProof.Rows L2 Evl
section
variable {c : Cn} {K : PySem.W.Frag} {ds : DS} {Φ : W → List D → Prop} {tr : TA}
end
/-! ### the narrow device of k24's law -/
def twoV : Dv := (⟨7, [0, 2]⟩, ⟨8, [0]⟩)
end PD

/-! PD137: comprehensions of pairs over a tuple -/
namespace PD
open PySem PySem.Spec PyProof.Rows L2 Evl
section
variable {c : Cn} {K : PySem.W.Frag} {ds : DS} {pl : List D} {Φ : W → List D → Prop} {te tl : TE} {tr : TA} {tt : TT} {σ : L2.St} {E : EE} {t : TS}
end
end PD

/-! PD138: set(a list of numbers) -/
namespace PD
open PySem PySem.Spec PyProof.Rows L2 Evl
abbrev bareSet (w : World) : Obj := { cls := .type "set", dict := none, data := .set #[] 0 (.fresh 0 0 (!w.params.followText "set-order")) }
section
variable {P : Program} {w : World} {A : Around} {E : Value → Shared → Prop} {s : Shared}
end
section
variable {X : Cx}
def rSetI (K : PySem.W.Frag) (w : World) : List V → Hp → VK → Prop := fun vs H Q => ∃ (l : Addr) (ns : List Int), vs = [V.ref l] ∧ SqL K H l (ns.map V.int) ∧ ns.length ≤ 1000 ∧
  ∀ (p : Addr) (n : Nat), H p = none → n ≤ ns.length → Q (.ref p) (upd H p (stO w p (fun j => decide (j ∈ ns), n)))
end
section
variable {c : Cn} {K : PySem.W.Frag} {ds : DS} {pl : List D} {Φ : W → List D → Prop} {te : TE} {w : World}
end
end PD

/-! PD139: catches by their numbers -/
namespace PD
open PySem PySem.Spec PyProof.Rows L2 Evl
def nthC (c : Comb) (i : Int) : Int := i / (c.ts.length : Int) * c.p + c.ts.getD (i % (c.ts.length : Int)).toNat 0
section
variable {c : Comb}
end
end PD

/-! PD140: catches in a row -/
namespace PD
open PySem PySem.Spec PyProof.Rows L2 Evl
def spots (c : Comb) (N : Nat) : List Int := ((List.range N).filter fun (j : Nat) => caught c (j : Int)).map fun (j : Nat) => (j : Int)
section
variable {c : Comb}
end
end PD

/-! PD141: a new comb that is kept and changed; plain combs -/
namespace PD
open PySem PySem.Spec PyProof.Rows L2 Evl
section
variable {c : Cn} {K : PySem.W.Frag} {ds : DS} {pl : List D} {t u : TS} {D' : Ends} {G0 : Hp} {E : EE} {Φ : W → List D → Prop} {tt : TT} {te : TE}
theorem we_pinX {te : TE} {Φ : W → List D → Prop} {P : Hp} {i : Nat} {v : V} (d : D) (F : Fresh c P) (hi : ds[i]? = some (some (.v v))) (r : R P v d) (no : ∀ (j : Nat) (ys : List D), ds[j]? ≠ some (some (W.o ys))) (h : WE c te (ds.set i (some (.d d))) pl fun w p1 => ((∃ n, Pk n p1) ∨ c.pool = none) ∧ ∃ y : D, w = .d y ∧ (∀ (G G' : Hp) (u : V), R G u y → R G' u y) ∧ Φ (.d y) p1) : WE (c.pinP P) te ds pl Φ := fun G σ H hs Q q => by
  obtain ⟨s2, hs2⟩ := hs.lendP F hi r no
  refine h _ σ H hs2 _ fun x G' H' w p1 h1 e1 f1 ⟨g1, y, ew, flat, g2⟩ => ?_
  subst ew
  have h3 := hs.lentP F no h1 e1 g1
  exact q x G H' (.d y) p1 h3 (Ex.refl _) (flat _ _ _ f1) g2
end
theorem PlC.plain {c b : Comb} (h : PlC c b) : Plain b := by
  obtain ⟨o, same, le, dv, least⟩ := h
  refine ⟨o, fun q q1 q2 qd pr => least q q1 q2 ?_ fun n => by rw [← same, ← same]; exact pr n⟩
  obtain ⟨k, hk⟩ := Int.dvd_of_emod_eq_zero qd
  obtain ⟨m, hm⟩ := Int.dvd_of_emod_eq_zero dv
  rw [hm, hk, Int.mul_assoc, Int.mul_emod_right]
theorem PlC.same {c b e : Comb} (h : PlC c b) (g : PlC c e) : e = b := g.plain.uniq h.plain fun n => by rw [g.2.1, h.2.1]
def plainB (b : Comb) : Bool := (List.range b.p.toNat).all fun q => decide (q = 0) || decide (b.p % (q : Int) ≠ 0) || (List.range b.p.toNat).any fun r => caught b ((r : Int) + q) != caught b (r : Int)
def sameB (b c : Comb) : Bool := decide (c.p % b.p = 0) && (List.range c.p.toNat).all fun r => caught b (r : Int) == caught c (r : Int)
end PD

/-! PD142: k02's written combs -/
namespace PD
open PySem PySem.Spec PyProof.Rows L2 Evl
def dbl (c : Comb) : Comb := ⟨2 * c.p, c.ts ++ c.ts.map (c.p + ·)⟩
def wc (p : Int) (ts : List Int) : Comb := ⟨p, ts⟩
end PD

/-! PD143: how many different numbers a list has: len(set(xs)) -/
namespace PD
open PySem PySem.Spec PyProof.Rows L2 Evl
def Diff (ns : List Int) (n : Nat) : Prop := ∃ ks : List Int, ks.Nodup ∧ (∀ k, k ∈ ks ↔ k ∈ ns) ∧ ks.length = n
section
variable {X : Cx}
def rSetC (K : PySem.W.Frag) (w : World) : List V → Hp → VK → Prop := fun vs H Q => ∃ (l : Addr) (ns : List Int), vs = [V.ref l] ∧ SqL K H l (ns.map V.int) ∧ ns.length ≤ 1000 ∧
  ∀ (p : Addr) (n : Nat), H p = none → Diff ns n → Q (.ref p) (upd H p (stO w p (fun j => decide (j ∈ ns), n)))
def rLenN (w : World) : List V → Hp → VK → Prop := fun vs H Q => ∃ (a : Addr) (t : (Int → Bool) × Nat), vs = [V.ref a] ∧ H a = some (stO w a t) ∧ t.2 ≤ 100000 ∧ Q (.int (t.2 : Nat)) H
end
section
variable {c : Cn} {K : PySem.W.Frag} {ds : DS} {pl : List D} {Φ : W → List D → Prop} {te : TE} {w : World}
end
end PD

/-! PD144: new lists of numbers kept as the rows of a new list, and changed -/
namespace PD
open PySem PySem.Spec PyProof.Rows L2 Evl
section
variable {c : Cn} {K : PySem.W.Frag} {ds : DS} {pl : List D} {t u : TS} {D' : Ends} {G0 : Hp} {E : EE} {Φ : W → List D → Prop} {tt : TT} {te : TE}
theorem HS.pinApp {G H P : Hp} {σ : L2.St} {qa : Addr} {us : List V} {x : V} (hs : HS (c.pinP P) G σ H ds pl) (F : Fresh c P) (hq : P qa = some (.lst us)) : Fresh c (upd P qa (.lst (us ++ [x]))) ∧ HS (c.pinP (upd P qa (.lst (us ++ [x])))) G σ (upd H qa (.lst (us ++ [x]))) ds pl := by
  have F' : Fresh c (upd P qa (.lst (us ++ [x]))) := fun b o q => by
    by_cases z : b = qa
    · subst z; exact F _ _ hq
    · rw [upd_ne z] at q; exact F _ _ q
  have nn : ∀ {b : Addr}, (c.pinP P).pin b = none → b ≠ qa ∧ (c.pinP (upd P qa (.lst (us ++ [x])))).pin b = none := fun {b} q => by
    have n : b ≠ qa := fun z => by rw [z, pinP_at hq] at q; cases q
    refine ⟨n, ?_⟩
    cases z : P b with
    | none => rw [pinP_none z] at q; rw [pinP_none (by rw [upd_ne n]; exact z)]; exact q
    | some u => rw [pinP_at z] at q; cases q
  refine ⟨F', ⟨fun b o q => ?_, hs.gh, hs.gq, fun b o q => ?_, fun b o q1 q2 => ?_, fun p z => ?_, fun b o q => ?_, fun b q => ?_, hs.len, fun j w q => ?_, hs.own⟩⟩
  · rw [upd_ne (fun z => by rw [z, hs.gn _ _ (pinP_at hq)] at q; cases q)]; exact hs.sub b o q
  · rcases pinP_or q with q | ⟨_, q⟩
    · by_cases z : b = qa
      · subst z; exact hs.gn _ _ (pinP_at hq)
      · rw [upd_ne z] at q; exact hs.gn _ _ (pinP_at q)
    · cases z : P b with
      | none => exact hs.gn b o (by rw [pinP_none z]; exact q)
      | some u => exact hs.gn b u (pinP_at z)
  · rw [upd_ne (fun z => by have q3 : c.H0 b = some o := q2; rw [z, (F _ _ hq).1] at q3; cases q3)]; exact hs.keep b o q1 q2
  · obtain ⟨b1, b2, vs, b3, b4⟩ := hs.pl p z
    obtain ⟨n1, n2⟩ := nn b2
    exact ⟨b1, n2, vs, by rw [upd_ne n1]; exact b3, b4⟩
  · rcases pinP_or q with q | ⟨q0, q⟩
    · by_cases z : b = qa
      · subst z; rw [upd_same] at q ⊢; exact q
      · rw [upd_ne z] at q ⊢; exact hs.pin _ _ (pinP_at q)
    · have n : b ≠ qa := fun z => by subst z; rw [upd_same] at q0; cases q0
      rw [upd_ne n] at q0 ⊢
      exact hs.pin b o (by rw [pinP_none q0]; exact q)
  · by_cases z : b = qa
    · subst z; exact ⟨_, upd_same⟩
    · rw [upd_ne z]; exact hs.hid b q
  · obtain ⟨v, d1, d2⟩ := hs.slots j w q
    refine ⟨v, d1, ?_⟩
    cases w with
    | d x => exact d2
    | v x => exact d2
    | o zs =>
      obtain ⟨p', vs, rfl, a1, a2, a3, a4, a5, a6, a7⟩ := d2
      obtain ⟨n1, n2⟩ := nn a5
      exact ⟨p', vs, rfl, by rw [upd_ne n1]; exact a1, a2, a3, a4, n2, a6, a7⟩

def WEW (c : Cn) (te : TE) (ds : DS) (pl : List D) (k : Hp → V → List D → Prop) : Prop := ∀ G σ H, HS c G σ H ds pl → ∀ Q : VK, (∀ P v G' H' pl', HS (c.pinP P) G' σ H' ds pl' → Ex G G' → Fresh c P → k P v pl' → Q v H') → te σ H Q
def WAW (c : Cn) (ta : TA) (ds : DS) (pl : List D) (k : Hp → List V → List D → Prop) : Prop := ∀ G σ H, HS c G σ H ds pl → ∀ Q : List V → Hp → Prop, (∀ P vs G' H' pl', HS (c.pinP P) G' σ H' ds pl' → Ex G G' → Fresh c P → k P vs pl' → Q vs H') → ta σ H Q
def noP : Hp := fun _ => none
end
end PD

/-! PD145: a kept list gets a number; each of its rows gets one more -/
namespace PD
open PySem PySem.Spec PyProof.Rows L2 Evl
section
variable {c : Cn} {K : PySem.W.Frag} {ds : DS} {pl : List D} {u : TS} {D' : Ends} {G0 : Hp}
def rowP (P : Hp) (f : Addr → List V) (x : V) (as : List Addr) : Hp := fun b => if b ∈ as then some (.lst (f b ++ [x])) else P b
end
end PD

/-! PD146: new lists handed on -/
namespace PD
open PySem PySem.Spec PyProof.Rows L2 Evl
section
variable {c : Cn} {K : PySem.W.Frag} {ds : DS} {pl : List D} {Φ : W → List D → Prop} {te : TE} {tt : TT} {tr : TA}
end
end PD

/-! PD147: the keys of a kept dict that pass, as a new list handed back -/
namespace PD
open PySem PySem.Spec PyProof.Rows L2 Evl
section
variable {c : Cn} {K : PySem.W.Frag} {ds : DS} {pl : List D} {D' : Ends} {G0 G H : Hp} {σ : L2.St} {E : EE} {Φ : W → List D → Prop} {te tk tv : TE} {tt : TT} {tr : TA} {j : Nat}
end
end PD

/-! PD148: owned lists: lent to an expression that makes a new list; moved from slot to slot -/
namespace PD
open PySem PySem.Spec PyProof.Rows L2 Evl
section
variable {c : Cn} {K : PySem.W.Frag} {ds : DS} {pl : List D} {t u : TS} {D' : Ends} {G0 : Hp} {E : EE} {Φ : W → List D → Prop} {tt : TT} {te : TE}
end
end PD

/-! PD149: sorted sets as owned lists; a number and a new list handed back together -/
namespace PD
open PySem PySem.Spec PyProof.Rows L2 Evl
section
variable {c : Cn} {K : PySem.W.Frag} {ds : DS} {pl : List D} {Φ : W → List D → Prop} {te tl : TE} {tt : TT} {σ : L2.St} {j : Nat} {w : World}
end
def tupP (k : Int) (ns : List Int) (t p : Addr) : Hp := fun b => if b = t then some (.tup [.int k, .ref p]) else if b = p then some (.lst (ns.map V.int)) else none
section
variable {c : Cn} {K : PySem.W.Frag} {ds : DS} {pl : List D} {u : TS} {D' : Ends} {G0 : Hp} {tr : TA}
end
end PD

/-! PD150: what settled hands back, taken apart -/
namespace PD
open PySem PySem.Spec PyProof.Rows L2 Evl
def settledF : List D → (Hp → V → Prop) → Prop := fun ds k => ∃ a : Dv × Int × List Int, ds = [a.1.d, .int a.2.1, .list (a.2.2.map PyData.int)] ∧ (a.1.Ok ∧ a.2.2.length ≤ 40 ∧ (∀ m ∈ a.2.2, m ≠ 0) ∧ a.2.2 ≠ [] ∧ a.2.2.sum = 0) ∧
  ∀ (n : Nat) t p, t ≠ p → Settle a.1 a.2.2 a.2.1 n → k (tupP (n : Int) (setl a.1 a.2.2 a.2.1 n) t p) (.ref t)
section
variable {c : Cn} {K : PySem.W.Frag} {ds : DS} {pl : List D} {E : EE} {Ek : XK} {tr : TA}
end
end PD

/-! PD151: a new list beside other owned lists -/
namespace PD
open PySem PySem.Spec PyProof.Rows L2 Evl
def WEO (c : Cn) (te : TE) (ds : DS) (pl : List D) (Φ : List D → List D → Prop) : Prop := ∀ G σ H, HS c G σ H ds pl → ∀ Q : VK, (∀ v G' H' xs pl', HS c G' σ H' ds pl' → Ex G G' → VW G' H' c v (.o xs) → (∀ (j : Nat) (ys : List D), ds[j]? = some (some (W.o ys)) → σ[j]? ≠ some (some v)) → Φ xs pl' → Q v H') → te σ H Q
section
variable {c : Cn} {K : PySem.W.Frag} {ds : DS} {pl : List D} {t u : TS} {D' : Ends} {G0 : Hp} {E : EE} {Φ : W → List D → Prop} {tt : TT} {te : TE}
end
end PD

/-! PD152: one number of settling rounds -/
namespace PD
open PySem PySem.Spec PyProof.Rows L2 Evl
end PD

/-! PD153: defs that change their second argument, a list -/
namespace PD
open PySem PySem.Spec PyProof.Rows L2 Evl
def spQ (F : D → List D → List D → (D → List D → Prop) → Prop) : Sp := fun vs H Q _ => ∃ G p v0 vs' us d0 pl ds, vs = v0 :: .ref p :: vs' ∧ Ex G H ∧ G p = none ∧ H p = some (.lst us) ∧ RA G us pl ∧ R G v0 d0 ∧ RA G vs' ds ∧ F d0 pl ds fun d pl' =>
  ∀ v G' H' us', (∀ a o, a ≠ p → H a = some o → H' a = some o) → Ex G' H' → Ex G G' → (∀ a o, H a = some o → G a = none → G' a = none) → H' p = some (.lst us') → RA G' us' pl' → R G' v d → Q v H'
section
variable {c : Cn} {K : PySem.W.Frag} {ds : DS} {pl : List D} {Φ : W → List D → Prop} {ta tb te : TE} {tr : TA} {G H : Hp} {σ : L2.St} {E : EE}
end
section
variable {P : Program} {w : World} {K : PySem.W.Frag} {mg : Str → Option Value} {base : Heap} {k : Nat} {f : Addr} {fd : FuncData} {ps : List Str}
def slotsQ (N : List Str) (d0 : D) (p : Addr) (ds : List D) : DS := some (.d d0) :: some (.v (.ref p)) :: (ds.map (fun x => some (W.d x)) ++ List.replicate (N.length - (ds.length + 2)) none)
end
def markL (bs : List Bool) (n : Nat) : List Int := ((List.range n).filter fun i => bs[i]? == some true).map fun (i : Nat) => (i : Int)
def roundOnF : D → List D → List D → (D → List D → Prop) → Prop := fun d0 pl ds k => ∃ (ls : List Int) (bs : List Bool), d0 = .list (ls.map PyData.int) ∧ pl = bs.map PyData.bool ∧ ds = [.int ((ls.length : Nat) : Int)] ∧ bs.length = ls.length ∧ 0 < ls.length ∧ ls.length ≤ 1000 ∧
  (∀ (i : Nat) (l : Int), ls[i]? = some l → bs[i]? = some true → bs[(l % (ls.length : Int)).toNat]? = some true) ∧ k (.list ((markL bs ls.length).map PyData.int)) pl
end PD

/-! PD154: settling by going round from all held heights -/
namespace PD
open PySem PySem.Spec PyProof.Rows L2 Evl
section
variable {v : Dv} {ms : List Int} {arm : Int}
end
end PD

/-! PD155: new lists kept in a new list: which are others than which; four answers in one list -/
namespace PD
open PySem PySem.Spec PyProof.Rows L2 Evl
section
variable {c : Cn} {K : PySem.W.Frag} {ds : DS} {pl : List D} {u : TS} {D' : Ends} {G0 : Hp}
def two2 (P : Hp) (x : V) (l1 l2 : List Int) : Prop := ∃ q p1 p2, x = .ref q ∧ P q = some (.lst [.ref p1, .ref p2]) ∧ P p1 = some (.lst (l1.map V.int)) ∧ P p2 = some (.lst (l2.map V.int)) ∧ p1 ≠ p2
def three3 (P : Hp) (x : V) (l1 l2 l3 : List Int) : Prop := ∃ q p1 p2 p3, x = .ref q ∧ P q = some (.lst [.ref p1, .ref p2, .ref p3]) ∧ P p1 = some (.lst (l1.map V.int)) ∧ P p2 = some (.lst (l2.map V.int)) ∧ P p3 = some (.lst (l3.map V.int)) ∧ p1 ≠ p2 ∧ p1 ≠ p3 ∧ p2 ≠ p3 ∧ p1 ≠ q ∧ p2 ≠ q ∧ p3 ≠ q
end
end PD

/-! PD156: the narrow device: settled heights -/
namespace PD
open PySem PySem.Spec PyProof.Rows L2 Evl
abbrev narT : List (Int × Nat × List Int) := [(6, 3, [9]), (7, 1, [0, 6, 12]), (10, 2, [0, 9])]
end PD

/-! PD157: defs that may raise; calls of them; try -/
namespace PD
open PySem PySem.Spec PyProof.Rows L2 Evl
structure FX (P : Program) (w : World) (K : PySem.W.Frag) (mg : Str → Option Value) (base : Heap) (k : Nat) (f : Addr) (fd : FuncData) (ps : List Str) (sp : Sp) : Prop where
  many : ∀ vs H Q E, sp vs H Q E → vs.length = ps.length
  goes : ∀ (B : Around) (fr : List Env) (s : Shared) (H : Hp) (ar : Args) (us : List Value) (vs : List V) (Q : VK) (E : XK), B.guards = some [] → Room k B → Env0 P w K mg base B fr s H →
    BindsTo s fd ar (ps.zip us) → Vals vs us → sp vs H Q E → codeAny (model P w) B (.call (.ref f) ar) (CR (L2.CX P w) fr P w H s Q E) s
section
variable {P : Program} {w : World} {K : PySem.W.Frag} {mg : Str → Option Value} {base : Heap} {k : Nat} {f : Addr} {fd : FuncData} {ps : List Str} {sp : Sp}
def DfX (P : Program) (w : World) (K : PySem.W.Frag) (mg : Str → Option Value) (base : Heap) (k : Nat) (name : Str) (ps : List Str) (sp : Sp) : Prop :=
  ∃ f fd, FX P w K mg base k f fd ps sp ∧ mg name = some (.ref f) ∧ PySem.W.keepIn K (.ref f) = true ∧ Binds K fd ps [] ∧ At0 K f fd
end
section
variable {X : Cx} {k : Nat} {f : Addr} {fd : FuncData} {ps : List Str} {sp : Sp} {W : WX} {x : Str} {p pos : Pos} {e : Expr} {es : List Expr} {t : TA}
def tCallX (sp : Sp) (W : WX) (t : TA) : TE := fun σ H Q => t σ H fun vs H1 => sp vs H1 Q (fun cls d H' => W cls d σ H')
end
/-! ### the promise: data, or an exception of one class; nothing that stood is changed -/
def spX (mg : Str → Option Value) (x : Str) (F : List D → (D → Prop) → Prop → Prop) : Sp := fun vs H Q E => ∃ G ds, Ex G H ∧ RA G vs ds ∧ F ds (fun d => ∀ v G' H', Ex H H' → Ex G' H' → Ex G G' → (∀ a o, H a = some o → G a = none → G' a = none) → R G' v d → Q v H')
  (∀ C H', mg x = some (.ref C) → Ex H H' → E (.ref C) none H')
def detX {A : Type} (enc : A → List D) (pre : A → Prop) (val : A → Option D) : List D → (D → Prop) → Prop → Prop := fun ds k e => ∃ a, ds = enc a ∧ pre a ∧ (val a = none → e) ∧ ∀ d, val a = some d → k d
section
variable {c : Cn} {K : PySem.W.Frag} {ds : DS} {pl : List D} {Φ : W → List D → Prop} {ta tb te : TE} {tr : TA} {mg : Str → Option Value} {x : Str} {W1 : WX}
end
section
variable {P : Program} {w : World} {K : PySem.W.Frag} {mg : Str → Option Value} {base : Heap} {k : Nat} {f : Addr} {fd : FuncData} {ps : List Str}
end
structure ExcOk (K : PySem.W.Frag) (mg : Str → Option Value) (x : Str) (C : Addr) : Prop where
  g : mg x = some (.ref C)
  x : PySem.W.excIn K C [.type "ValueError", .type "Exception", .type "BaseException", .type "object"] "ValueError.__new__" = true
  k : PySem.W.keepIn K (.ref C) = true
  b : PySem.W.subIn K (.ref C) (.type "BaseException") = some true
  t : PySem.W.typeIn K (.ref C) = some (.type "type")
  em : PySem.W.exmOne K (.ref C) (.ref C) = some true
end PD

/-! PD158: keyword calls of defs that may raise -/
namespace PD
open PySem PySem.Spec PyProof.Rows L2 Evl
section
variable {X : Cx} {k : Nat} {ps ks : List Str} {sp : Sp} {W : WX} {x : Str} {p pos : Pos} {tk : TA} {kws : List Keyword} {is : List Nat}
end
end PD

/-! PD159: an answer as related to the arguments, or the exception -/
namespace PD
open PySem PySem.Spec PyProof.Rows L2 Evl
def relX {A : Type} (enc : A → List D) (pre bad : A → Prop) (post : A → D → Prop) : List D → (D → Prop) → Prop → Prop := fun ds k e => ∃ a, ds = enc a ∧ pre a ∧ (bad a → e) ∧ (¬ bad a → ∀ d, post a d → k d)
section
variable {c : Cn} {ds : DS} {pl : List D} {Φ : W → List D → Prop} {tr : TA} {mg : Str → Option Value} {x : Str} {W1 : WX} {A : Type} {enc : A → List D} {pre bad : A → Prop} {post : A → D → Prop}
end
end PD

/-! PD160: places gone through from seven rounds further up; the least and the greatest rise -/
namespace PD
open PySem PySem.Spec PyProof.Rows L2 Evl
def placesL (v : Dv) (ns : List (Int × Int)) : List Sv := (startsL v).filterMap fun st => runN v (st.1 + 7 * v.1.p, st.1 + 7 * v.1.p - st.2) ns
end PD

/-! PD161: the narrow device: sure rises and ranges; one item for each item of a tuple -/
namespace PD
open PySem PySem.Spec PyProof.Rows L2 Evl
section
variable {c : Cn} {K : PySem.W.Frag} {ds : DS} {pl : List D} {Φ : W → List D → Prop} {tl te : TE}
end
def oZ : Option Int → D
  | some r => .int r
  | none => .none
instance (l : List Int) : Decidable (AllEq l) := by unfold AllEq; infer_instance
end PD

/-! PD162: try .. except x as e; isinstance of what was caught; the first move that tells -/
namespace PD
open PySem PySem.Spec PyProof.Rows L2 Evl
def onlyC (C : Addr) (ts : Addr → TS) : Addr → Value → Option Addr → TS := fun a cls d D σ H => (cls = .ref C ∧ d = none) ∧ ts a D σ H
section
variable {X : Cx} {x n : Str} {C : Addr} {i : Nat} {body suite : List Stmt} {b₀ : Stmt} {np pos pos' : Pos} {tb : WX → TS} {ts : Addr → TS} {Wout : WX}
end
section
variable {c : Cn} {K : PySem.W.Frag} {ds : DS} {pl : List D} {Φ : W → List D → Prop} {tr : TA} {mg : Str → Option Value} {x : Str} {G H : Hp} {σ : L2.St}
end
structure ExcAs (K : PySem.W.Frag) (mg : Str → Option Value) (x : Str) (C : Addr) : Prop where
  o : ExcOk K mg x C
  c : ExcC K C
  v : PySem.W.kitOne K (.ref C) (.type "ValueError") = some true
def bef (a b : Int) : Prop := a.natAbs < b.natAbs ∨ (a.natAbs = b.natAbs ∧ b < a)
def Tells (R : Int → List Int) (M : Nat) (d : D) : Prop := (d = .none ∧ ∀ m : Int, m ≠ 0 → m.natAbs ≤ M → AllEq (R m)) ∨ ∃ m : Int, d = .int m ∧ m ≠ 0 ∧ m.natAbs ≤ M ∧ ¬ AllEq (R m) ∧ ∀ z : Int, z ≠ 0 → bef z m → AllEq (R z)
end PD

/-! PD163: isinstance(e, ValueError) by the class's bases -/
namespace PD
open PySem PySem.Spec PyProof.Rows L2 Evl
end PD

/-! PD164: the first move that tells is one; devices of the telling law -/
namespace PD
open PySem PySem.Spec PyProof.Rows L2 Evl
def befs (m : Int) : List Int := ((List.range m.natAbs).map fun (k : Nat) => ((k : Int) + 1)) ++ (List.range m.natAbs).map fun (k : Nat) => -((k : Int) + 1)
instance (a b : Int) : Decidable (bef a b) := by unfold bef; infer_instance
def lonV : Dv := (⟨1, [0]⟩, ⟨24, [0]⟩)
def oneV : Dv := (⟨1, [0]⟩, ⟨1, [0]⟩)
abbrev lonT : List (List (Int × Int) × Int) := [([(22, 0), (-22, 0)], 23), ([(22, 0)], 1)]
abbrev narTl : List (List (Int × Int) × Option Int) := [([], some 1), ([(1, 1)], some (-1)), ([(1, 0)], some 1), ([(4, 1)], none), ([(1, 1), (-1, -1)], some (-1))]
end PD

/-! PD165: a device whose teeth are shifted -/
namespace PD
open PySem PySem.Spec PyProof.Rows L2 Evl
structure Shf (v u : Dv) (b m : Int) : Prop where
  p1 : u.1.p = v.1.p
  p2 : u.2.p = v.2.p
  g : ∀ y, caught u.1 (y + b) = caught v.1 y
  h : ∀ y, caught u.2 (y + m) = caught v.2 y
abbrev sh (b m : Int) (s : Sv) : Sv := (s.1 + b, s.2 + b - m)
section
variable {v u : Dv} {b m : Int} (o : Shf v u b m)
include o
theorem Shf.symm : Shf u v (-b) (-m) := ⟨o.p1.symm, o.p2.symm, fun y => by rw [← o.g, show y + -b + b = y by omega], fun y => by rw [← o.h, show y + -m + m = y by omega]⟩
end
end PD

/-! PD166: looks of shifted devices; a device times a number -/
namespace PD
open PySem PySem.Spec PyProof.Rows L2 Evl
structure Tms (v u : Dv) (n : Int) : Prop where
  n0 : 0 < n
  p1 : u.1.p = n * v.1.p
  p2 : u.2.p = n * v.2.p
  g : ∀ y, caught u.1 (n * y) = caught v.1 y
  g' : ∀ y, caught u.1 y = true → y % n = 0
  h : ∀ y, caught u.2 (n * y) = caught v.2 y
  h' : ∀ y, caught u.2 y = true → y % n = 0
abbrev tm (n : Int) (s : Sv) : Sv := (n * s.1, n * s.2)
theorem flo_tm {c d : Comb} (oc : c.Ok) (od : d.Ok) {n : Int} (n0 : 0 < n) (h : ∀ y, caught d (n * y) = caught c y) (h' : ∀ y, caught d y = true → y % n = 0) (x : Int) : flo d (n * x) = n * flo c x := by
  obtain ⟨a1, a2, a3⟩ := flo_spec oc x
  refine IsBelow.uniq (flo_spec od _) ⟨Int.mul_le_mul_of_nonneg_left a1 (by omega), by rw [h]; exact a2, fun y y1 y2 => ?_⟩
  cases e : caught d y with
  | false => rfl
  | true =>
    obtain ⟨z, rfl⟩ := Int.dvd_of_emod_eq_zero (h' y e)
    rw [h] at e
    have l1 : flo c x < z := Int.lt_of_mul_lt_mul_left y1 (by omega)
    have l2 : z ≤ x := Int.le_of_mul_le_mul_left y2 n0
    rw [a3 z l1 l2] at e
    cases e
theorem mul_max' {n a b : Int} (n0 : 0 < n) : n * max a b = max (n * a) (n * b) := by
  by_cases z : a ≤ b
  · have := Int.mul_le_mul_of_nonneg_left z (show 0 ≤ n by omega)
    rw [Int.max_eq_right z, Int.max_eq_right this]
  · have := Int.mul_le_mul_of_nonneg_left (show b ≤ a by omega) (show 0 ≤ n by omega)
    rw [Int.max_eq_left (show b ≤ a by omega), Int.max_eq_left this]
section
variable {v u : Dv} {n : Int} (o : Tms v u n)
include o
theorem Tms.mv (ok : v.Ok) (ou : u.Ok) (s : Sv) (k : Int) : PD.mv u (tm n s) (n * k) = tm n (PD.mv v s k) := by
  have f1 := flo_tm ok.1 ou.1 o.n0 o.g o.g'
  have f2 := flo_tm ok.2 ou.2 o.n0 o.h o.h'
  unfold PD.mv
  by_cases z : k > 0
  · have z' : n * k > 0 := Int.mul_pos o.n0 z
    rw [if_pos z, if_pos z']
    ext
    · show n * s.2 + n * k + max (n * s.1 - n * s.2 - n * k) (flo u.2 (n * s.1 - n * s.2)) = n * (s.2 + k + max (s.1 - s.2 - k) (flo v.2 (s.1 - s.2)))
      rw [← Int.mul_sub, f2, ← Int.mul_sub, ← mul_max' o.n0, Int.mul_add, Int.mul_add]
    · show n * s.2 + n * k = n * (s.2 + k)
      rw [Int.mul_add]
  · have z' : ¬ n * k > 0 := fun q => by
      have q2 := Int.mul_le_mul_of_nonneg_left (show k ≤ 0 by omega) (show 0 ≤ n by have := o.n0; omega)
      rw [Int.mul_zero] at q2
      omega
    rw [if_neg z, if_neg z']
    ext
    · show max (n * s.1 + n * k) (flo u.1 (n * s.1)) = n * max (s.1 + k) (flo v.1 s.1)
      rw [f1, ← Int.mul_add, mul_max' o.n0]
    · show n * s.2 + n * k = n * (s.2 + k)
      rw [Int.mul_add]
end
end PD

/-! PD167: best heights of a device times a number; combs shifted, and times a number -/
namespace PD
open PySem PySem.Spec PyProof.Rows L2 Evl
section
variable {v u : Dv} {N : Nat} (o : Tms v u (N : Int))
include o
theorem Tms.reach (ok : v.Ok) (ou : u.Ok) (h : Int) (a g : Nat) : reachH u ((N : Int) * h) (N * a) (N * g) = (N : Int) * reachH v h a g := by
  by_cases z : g = a
  · rw [z, reach_own ok, reach_own ou]
  · have n0 : 0 < N := by have := o.n0; omega
    have z' : N * g ≠ N * a := fun q => z (Nat.eq_of_mul_eq_mul_left n0 q)
    have e1 := reach_mv ok h z
    have e2 := reach_mv ou ((N : Int) * h) z'
    have e3 := Tms.mv o ok ou (h, (a : Int)) ((g : Int) - (a : Int))
    rw [e1] at e3
    have ea : (((N * a : Nat) : Int)) = (N : Int) * (a : Int) := Int.natCast_mul ..
    have eg : (((N * g : Nat) : Int)) = (N : Int) * (g : Int) := Int.natCast_mul ..
    rw [ea, eg, ← Int.mul_sub] at e2
    have e4 := e2.symm.trans e3
    exact congrArg Prod.fst e4
theorem Tms.go (ok : v.Ok) (ou : u.Ok) : ∀ (gs : List Nat) (h : Int) (a : Nat), goS u ((N : Int) * h) (N * a) (gs.map fun g => N * g) = ((N : Int) * (goS v h a gs).1, N * (goS v h a gs).2)
  | [], h, a => rfl
  | g :: gs, h, a => by
    show goS u (reachH u ((N : Int) * h) (N * a) (N * g)) (N * g) (gs.map fun g => N * g) = _
    rw [Tms.reach o ok ou]
    exact Tms.go ok ou gs _ _
end
def tmC (n : Int) (c : Comb) : Comb := ⟨n * c.p, c.ts.map fun t => n * t⟩
end PD

/-! PD168: a test that is asked at times, and says no -/
namespace PD
open PySem PySem.Spec PyProof.Rows L2 Evl
section
variable {c : Cn} {ds : DS} {pl : List D}
end
end PD

/-! PD169: two bars, times a number -/
namespace PD
open PySem PySem.Spec PyProof.Rows L2 Evl
end PD

/-! PD170: best heights are near -/
namespace PD
open PySem PySem.Spec PyProof.Rows L2 Evl
end PD

/-! PD171: the pitches of three laps -/
namespace PD
open PySem PySem.Spec PyProof.Rows L2 Evl
end PD

/-! PD172: objects: what stands of them beside the data, changed and read -/
namespace PD
open PySem PySem.Spec PyProof.Rows L2 Evl
abbrev Fs := Str → Option W
def noFs : Fs := fun _ => none
def setF (fs : Fs) (f : Str) (w : W) : Fs := fun g => if g = f then some w else fs g
def Dj (P G : Hp) : Prop := ∀ a o, P a = some o → G a = none
theorem Dj.symm {P G : Hp} (h : Dj P G) : Dj G P := fun a o q => by
  cases z : P a with
  | none => rfl
  | some u => rw [h a u z] at q; cases q
structure Ob where
  x : Addr
  C : Addr
  n : Nat
  fs : Fs
def FldOk (P G : Hp) (v : V) : W → Prop
  | .d x => R G v x
  | .o xs => ∃ p us, v = .ref p ∧ P p = some (.lst us) ∧ RA G us xs
  | .v x => v = x
def ObjAt (P G : Hp) (o : Ob) : Prop := ∃ dx vs, P o.x = some (.ins o.C dx vs) ∧ P dx = some (.own o.x) ∧ vs.length = o.n ∧ (∀ f, o.fs f = none → vs.lookup f = none) ∧ (∀ f w, o.fs f = some w → ∃ v, vs.lookup f = some v ∧ FldOk P G v w) ∧
  (∀ f g xs ys p, o.fs f = some (.o xs) → o.fs g = some (.o ys) → vs.lookup f = some (.ref p) → vs.lookup g = some (.ref p) → f = g)
def minus (P Q : Hp) : Hp := fun a => match Q a with
  | some _ => none
  | none => P a
def Sep (P G : Hp) : List Ob → Prop
  | [] => True
  | o :: r => ∃ P1 P2, Ex P1 P ∧ Ex P2 P ∧ Dj P1 P2 ∧ ObjAt P1 G o ∧ Sep P2 G r
/-! ### a context that bears objects -/
def Snap (c : Cn) (G0 : Hp) : Prop := ∀ a o, G0 a = some o → c.H0 a = some o ∧ ¬ c.hd a ∧ c.pool ≠ some a ∧ c.pin a = none
section
variable {c b : Cn} {K : PySem.W.Frag} {ds : DS} {pl : List D} {t u : TS} {D' : Ends} {G0 G H : Hp} {σ : L2.St} {E : EE} {Φ : W → List D → Prop} {te ta tb : TE} {tr : TA} {tt : TT}
def Cn.swap (c : Cn) (P1 P' G' : Hp) : Cn := { c with H0 := orP c.H0 G', pin := orP P' (minus c.pin P1) }
structure Objs (b c : Cn) (l : List Ob) : Prop where
  po : c.pool = b.pool
  hd : c.hd = b.hd
  h0 : Ex b.H0 c.H0
  ex : ∃ G0 P, Snap c G0 ∧ Ex P c.pin ∧ (∀ a o, b.pin a = some o → c.pin a = some o ∧ P a = none) ∧ (∀ a o, P a = some o → c.H0 a = none ∧ ¬ c.hd a ∧ c.pool ≠ some a) ∧ Sep P G0 l
end
end PD

/-! PD173: promises of methods and properties, and their calls -/
namespace PD
open PySem PySem.Spec PyProof.Rows L2 Evl
def spM (C : Addr) (F : Nat → Fs → List D → (D → Nat → Fs → Prop) → Prop) : Sp := fun vs H Q _ => ∃ G P x n fs vs' ds, vs = .ref x :: vs' ∧ Ex G H ∧ Ex P H ∧ Dj P G ∧ ObjAt P G ⟨x, C, n, fs⟩ ∧ RA G vs' ds ∧ F n fs ds fun d n' fs' => ∀ v P' G' H',
  (∀ a u, P a = none → H a = some u → H' a = some u) → Ex P' H' → (∀ a u, P' a = some u → (∃ u, P a = some u) ∨ H a = none) → Ex G' H' → Ex G G' → (∀ a u, P a = none → H a = some u → G a = none → G' a = none) → Dj P' G' → ObjAt P' G' ⟨x, C, n', fs'⟩ → R G' v d → Q v H'
def spG (C : Addr) (F : Nat → Fs → (D → Prop) → Prop) : Sp := fun vs H Q _ => ∃ G P x n fs, vs = [.ref x] ∧ Ex G H ∧ Ex P H ∧ Dj P G ∧ ObjAt P G ⟨x, C, n, fs⟩ ∧ F n fs fun d => ∀ v G' H', Ex H H' → Ex G' H' → Ex G G' → (∀ a u, H a = some u → G a = none → G' a = none) → R G' v d → Q v H'
section
variable {c b : Cn} {K : PySem.W.Frag} {ds : DS} {pl : List D} {t u : TS} {D' : Ends} {G0 G H : Hp} {σ : L2.St} {E : EE} {Φ : W → List D → Prop} {te ta tb : TE} {tr : TA} {tt : TT} {Ek : XK} {l : List Ob} {k i : Nat} {o : Ob} {C : Addr} {m f : Str}
/-! ### within a method -/
end
end PD

/-! PD174: methods run where nothing is shown; how methods begin and end; statements over objects -/
namespace PD
open PySem PySem.Spec PyProof.Rows L2 Evl
section
variable {X : Cx} {k : Nat} {f C : Addr} {fd : FuncData} {ps : List Str} {sp : Sp} {x m : Str} {p pos apos : Pos} {e o : Expr} {es : List Expr} {ta : TE} {t : TA}
theorem call_noguard {a : Args} : (Code.builtin "type.__call__" a).guards = [] := by
  unfold Code.guards
  rw [if_neg]
  show ¬ (guardIds.contains "type.__call__" = true)
  decide +kernel
end
/-! ### promises by class and name -/
section
variable (P : Program) (w : World) (K : PySem.W.Frag) (mg : Str → Option Value) (base : Heap) (k : Nat) (C : Addr)
def DfM (m : Str) (ps : List Str) (sp : Sp) : Prop := ∃ f fd, FG P w K mg base k f fd ps sp ∧ Meth K C m f ∧ Binds K fd ps []
def DfI (ps : List Str) (sp : Sp) : Prop := ∃ f fd, FG P w K mg base k f fd ps sp ∧ Mk K C f ∧ Binds K fd ps []
def DfG (m : Str) (ps : List Str) (sp : Sp) : Prop := ∃ f pp fd, FG P w K mg base k f fd ps sp ∧ PropOf K C m pp f ∧ Binds K fd ps []
end
section
variable {X : Cx} {k : Nat} {C : Addr} {ps : List Str} {sp : Sp} {x m : Str} {p pos apos : Pos} {e o : Expr} {es : List Expr} {ta : TE} {t : TA}
end
end PD

/-! PD175: how methods begin and end; a field set, a field's list grown; loops over objects -/
namespace PD
open PySem PySem.Spec PyProof.Rows L2 Evl
section
variable {P : Program} {w : World} {K : PySem.W.Frag} {mg : Str → Option Value} {base : Heap} {k : Nat} {f : Addr} {fd : FuncData} {ps : List Str}
end
section
variable {c b : Cn} {K : PySem.W.Frag} {ds : DS} {pl : List D} {t u : TS} {D' : Ends} {G0 G H : Hp} {σ : L2.St} {E : EE} {Φ : W → List D → Prop} {te ta tb tv : TE} {tr : TA} {tt : TT} {Ek : XK} {l : List Ob} {k i : Nat} {o : Ob} {C : Addr} {m f : Str}
def Ob.setN (o : Ob) (f : Str) : Nat := if (o.fs f).isSome then o.n else o.n + 1
/-! ### order and loops -/
theorem wsk_sq (h : WSK c t ds pl { D' with nx := u D' } G0) : WSK c (tSeq t u) ds pl D' G0 := h
theorem wsk_go (h : WSK c u ds pl D' G0) : WSK c tNext ds pl { D' with nx := u D' } G0 := h
end
end PD

/-! PD176: live bars -/
namespace PD
open PySem PySem.Spec PyProof.Rows L2 Evl
abbrev Plc := Int × Int × Comb
def plcD (t : Plc) : D := .tuple [.int t.1, .int t.2.1, t.2.2.d]
structure BS where
  gr : Comb
  calls : List D
  plcs : List Plc
def barF (s : BS) : Fs := fun f => if f = "_ground" then some (.d s.gr.d) else if f = "_calls" then some (.o s.calls) else if f = "_places" then some (.o (s.plcs.map plcD)) else none
abbrev FM := Nat → Fs → List D → (D → Nat → Fs → Prop) → Prop
abbrev FGt := Nat → Fs → (D → Prop) → Prop
def initF : FM := fun n fs ds k => n = 0 ∧ fs = noFs ∧ ∃ (v : Dv) (s : Sv), ds = [v.d, s.d] ∧ v.Ok ∧ held v s = true ∧ k .none 3 (barF ⟨v.1, [], [(s.1, s.2, v.2)]⟩)
def doneF : FM := fun n fs ds k => ∃ s c p, fs = barF s ∧ ds = [c, plcD p] ∧ s.calls.length < sizeLine ∧ s.plcs.length < sizeLine ∧ k .none n (barF ⟨s.gr, s.calls ++ [c], s.plcs ++ [p]⟩)
def pumpP (s : BS) (p : Plc) (span : Int) (times : Nat) : BS := ⟨s.gr, s.calls ++ [.tuple [.str "pump", .int span, .int (times : Int)]], s.plcs ++ [((rp (s.gr, p.2.2) [span, -span] (p.1, p.2.1) times).1, p.2.1, p.2.2)]⟩
def pumpF : FM := fun n fs ds k => ∃ s ps p span, ∃ times : Nat, fs = barF s ∧ s.plcs = ps ++ [p] ∧ ds = [.int span, .int (times : Int)] ∧ 1 ≤ span ∧ 1 ≤ times ∧ Dv.Ok (s.gr, p.2.2) ∧ span.natAbs < BB ∧ times < BB ∧ p.1.natAbs < BB ∧ s.calls.length < 1000 ∧ s.plcs.length < 1000 ∧
  k .none n (barF (pumpP s p span times))
def heightF : FGt := fun _ fs k => ∃ s ps p, fs = barF s ∧ s.plcs = ps ++ [p] ∧ k (.int p.1)
def handF : FGt := fun _ fs k => ∃ s ps p, fs = barF s ∧ s.plcs = ps ++ [p] ∧ k (.int p.2.1)
def difs : List Int → List Int
  | a :: b :: r => (b - a) :: difs (b :: r)
  | _ => []
def risesF : FGt := fun _ fs k => ∃ s, fs = barF s ∧ s.plcs.length < 1000 ∧ k (.list ((difs (s.plcs.map (·.1))).map PyData.int))
end PD

/-! PD177: a class as it stands at the top, and its methods -/
namespace PD
open PySem PySem.Spec PyProof.Rows L2 Evl
def clA (mg : Str → Option Value) (x : Str) : Addr := match mg x with
  | some (.ref a) => a
  | _ => 0
structure ClsTop (K : PySem.W.Frag) (mg : Str → Option Value) (x : Str) (fs : List Str) : Prop where
  at_ : mg x = some (.ref (clA mg x))
  cl : Cls K (clA mg x)
  na : ∀ f ∈ fs, NoAttr K (clA mg x) f
def HereM (K : PySem.W.Frag) (C : Addr) (m qual : Str) (st : Stmt) (ps : List Str) (f : Addr) (fd : FuncData) : Prop := Fun K m qual st f fd ∧ Meth K C m f ∧ Binds K fd ps []
def HereI (K : PySem.W.Frag) (C : Addr) (m qual : Str) (st : Stmt) (ps : List Str) (f : Addr) (fd : FuncData) : Prop := Fun K m qual st f fd ∧ Mk K C f ∧ Binds K fd ps []
def HereG (K : PySem.W.Frag) (C pp : Addr) (m qual : Str) (st : Stmt) (ps : List Str) (f : Addr) (fd : FuncData) : Prop := Fun K m qual st f fd ∧ PropOf K C m pp f ∧ Binds K fd ps []
end PD

/-! PD178: a comprehension over a range with a step -/
namespace PD
open PySem PySem.Spec PyProof.Rows L2 Evl
section
variable {c : Cn} {K : PySem.W.Frag} {ds : DS} {pl : List D} {Φ : W → List D → Prop} {te : TE} {tr : TA} {tt : TT} {j : Nat}
end
end PD

/-! PD179: ends, branches, rises -/
namespace PD
open PySem PySem.Spec PyProof.Rows L2 Evl
section
variable {c b : Cn} {K : PySem.W.Frag} {ds : DS} {pl : List D} {t u : TS} {D' D2 : Ends} {G0 : Hp} {E : EE} {Φ : W → List D → Prop} {te : TE} {tt : TT} {l : List Ob}
end
end PD

/-! PD180: loops over what a tuple bears; two bars over one hand -/
namespace PD
open PySem PySem.Spec PyProof.Rows L2 Evl
section
variable {c b : Cn} {K : PySem.W.Frag} {ds : DS} {pl : List D} {t u : TS} {D' : Ends} {G0 : Hp} {tl : TE}
end
end PD

/-! PD181: a field's list cut short, its length; more of live bars -/
namespace PD
open PySem PySem.Spec PyProof.Rows L2 Evl
section
variable {c b : Cn} {K : PySem.W.Frag} {ds : DS} {pl : List D} {t u : TS} {D' : Ends} {G0 G H : Hp} {σ : L2.St} {E : EE} {Φ : W → List D → Prop} {te ta tb tv : TE} {tr : TA} {tt : TT} {Ek : XK} {l : List Ob} {k i : Nat} {o : Ob} {C : Addr} {m f : Str}
end
end PD

/-! PD182: live bars moved, taken back, with another grip, their device -/
namespace PD
open PySem PySem.Spec PyProof.Rows L2 Evl
section
variable {c b : Cn} {K : PySem.W.Frag} {ds : DS} {pl : List D} {Φ : W → List D → Prop} {l : List Ob} {k i : Nat} {o : Ob} {f : Str}
end
def moveP (s : BS) (p : Plc) (by_ : Int) : BS := ⟨s.gr, s.calls ++ [.tuple [.str "move", .int by_]], s.plcs ++ [((mv (s.gr, p.2.2) (p.1, p.2.1) by_).1, (mv (s.gr, p.2.2) (p.1, p.2.1) by_).2, p.2.2)]⟩
def moveF : FM := fun n fs ds k => ∃ s ps p by_, fs = barF s ∧ s.plcs = ps ++ [p] ∧ ds = [.int by_] ∧ by_ ≠ 0 ∧ Dv.Ok (s.gr, p.2.2) ∧ s.calls.length < 1000 ∧ s.plcs.length < 1000 ∧ k .none n (barF (moveP s p by_))
def undoF : FM := fun n fs ds k => ∃ s cs c ps p, fs = barF s ∧ s.calls = cs ++ [c] ∧ s.plcs = ps ++ [p] ∧ ds = [] ∧ k .none n (barF ⟨s.gr, cs, ps⟩)
def gripP (s : BS) (p : Plc) (c : Comb) : BS := ⟨s.gr, s.calls ++ [.tuple [.str "grip", c.d]], s.plcs ++ [(p.1, p.2.1, c)]⟩
def gripF : FM := fun n fs ds k => ∃ s ps p, ∃ c : Comb, fs = barF s ∧ s.plcs = ps ++ [p] ∧ ds = [c.d] ∧ c.Ok ∧ s.gr.Ok ∧ held (s.gr, c) (p.1, p.2.1) = true ∧ s.calls.length < 1000 ∧ s.plcs.length < 1000 ∧ k .none n (barF (gripP s p c))
def deviceF : FGt := fun _ fs k => ∃ s ps p, fs = barF s ∧ s.plcs = ps ++ [p] ∧ k (Dv.d (s.gr, p.2.2))
end PD

/-! PD183: a method that hands back another object of its class -/
namespace PD
open PySem PySem.Spec PyProof.Rows L2 Evl
section
variable {c b : Cn} {K : PySem.W.Frag} {ds : DS} {pl : List D} {t u : TS} {D' : Ends} {G0 G H : Hp} {σ : L2.St} {E : EE} {Φ : W → List D → Prop} {te ta tb tv : TE} {tr : TA} {tt : TT} {Ek : XK} {C : Addr} {m f : Str}
end
def spK (C : Addr) (F : Nat → Fs → (Nat → Fs → Nat → Fs → Prop) → Prop) : Sp := fun vs H Q _ => ∃ G P x n fs, vs = [.ref x] ∧ Ex G H ∧ Ex P H ∧ Dj P G ∧ ObjAt P G ⟨x, C, n, fs⟩ ∧ F n fs fun n' fs' n2 fs2 => ∀ x2 P' P2 G' H',
  (∀ a u, P a = none → H a = some u → H' a = some u) → Ex P' H' → (∀ a u, P' a = some u → (∃ u, P a = some u) ∨ H a = none) → Ex P2 H' → (∀ a u, P2 a = some u → (∃ u, P a = some u) ∨ H a = none) → Dj P2 P' → Ex G' H' → Ex G G' →
  (∀ a u, P a = none → H a = some u → G a = none → G' a = none) → Dj P' G' → Dj P2 G' → ObjAt P' G' ⟨x, C, n', fs'⟩ → ObjAt P2 G' ⟨x2, C, n2, fs2⟩ → Q (.ref x2) H'
section
variable {c b : Cn} {K : PySem.W.Frag} {ds : DS} {pl : List D} {D' : Ends} {G0 : Hp} {Ek : XK} {l : List Ob} {k i j : Nat} {o : Ob} {C : Addr} {m f : Str}
end
section
variable {P : Program} {w : World} {K : PySem.W.Frag} {mg : Str → Option Value} {base : Heap} {k : Nat} {f : Addr} {fd : FuncData} {ps : List Str}
end
section
variable {c b : Cn} {K : PySem.W.Frag} {ds : DS} {pl : List D} {D' : Ends} {G0 : Hp} {l : List Ob} {k i : Nat} {o : Ob} {f : Str}
end
end PD

/-! PD184: live bars forked -/
namespace PD
open PySem PySem.Spec PyProof.Rows L2 Evl
abbrev FK := Nat → Fs → (Nat → Fs → Nat → Fs → Prop) → Prop
def forkF : FK := fun n fs k => ∃ s p ps, fs = barF s ∧ s.plcs = p :: ps ∧ Dv.Ok (s.gr, p.2.2) ∧ held (s.gr, p.2.2) (p.1, p.2.1) = true ∧ k n (barF s) 3 (barF s)
section
variable {c : Cn} {ds : DS} {pl : List D} {D' : Ends} {G0 : Hp} {i : Nat} {x : V}
end
end PD

/-! PD185: expressions and tests that change objects -/
namespace PD
open PySem PySem.Spec PyProof.Rows L2 Evl
def WEJ (c : Cn) (te : TE) (ds : DS) (pl : List D) (Φ : Cn → W → List D → Prop) : Prop := ∀ G σ H, HS c G σ H ds pl → ∀ Q : VK, (∀ v c' G' H' w pl', HS c' G' σ H' ds pl' → Ex G G' → VW G' H' c' v w → Φ c' w pl' → Q v H') → te σ H Q
def WTJ (c : Cn) (tt : TT) (ds : DS) (pl : List D) (Φ : Cn → Bool → List D → Prop) : Prop := ∀ G σ H, HS c G σ H ds pl → ∀ Q : Bool → Hp → Prop, (∀ k c' G' H' pl', HS c' G' σ H' ds pl' → Ex G G' → Φ c' k pl' → Q k H') → tt σ H Q
abbrev isDJ (k : Cn → D → List D → Prop) : Cn → W → List D → Prop := fun c w p => match w with
  | .d x => k c x p
  | _ => False
abbrev isBJ (k : Cn → Bool → List D → Prop) : Cn → W → List D → Prop := fun c w p => match w with
  | .d (.bool x) => k c x p
  | _ => False
section
variable {c b : Cn} {K : PySem.W.Frag} {ds : DS} {pl : List D} {t u : TS} {D' D2 : Ends} {G0 G H : Hp} {σ : L2.St} {E : EE} {Φ : Cn → W → List D → Prop} {Ψ : Cn → Bool → List D → Prop} {te ta tb : TE} {tr : TA} {tt tu : TT} {Ek : XK} {l : List Ob} {k i : Nat} {o : Ob} {C : Addr} {m : Str}
end
end PD

/-! PD186: the calls of live bars, told -/
namespace PD
open PySem PySem.Spec PyProof.Rows L2 Evl
def callOk (d : D) : Prop := (∃ by_ : Int, d = .tuple [.str "move", .int by_]) ∨ (∃ s t : Int, d = .tuple [.str "pump", .int s, .int t]) ∨ ∃ c : Comb, c.Ok ∧ d = .tuple [.str "grip", c.d]
def logF : FGt := fun _ fs k => ∃ s, fs = barF s ∧ s.calls.length < 1000 ∧ (∀ d ∈ s.calls, callOk d) ∧ k (.list s.calls)
end PD

/-! PD187: a law's def that has a live bar do a call -/
namespace PD
open PySem PySem.Spec PyProof.Rows L2 Evl
def lcallF : FM := fun n fs ds k => ∃ s ps p, fs = barF s ∧ s.plcs = ps ++ [p] ∧ Dv.Ok (s.gr, p.2.2) ∧ s.calls.length < 1000 ∧ s.plcs.length < 1000 ∧
  ((∃ by_ : Int, ds = [.tuple [.str "move", .int by_]] ∧ by_ ≠ 0 ∧ k (.bool true) n (barF (moveP s p by_))) ∨
   (∃ span : Int, ∃ times : Nat, ds = [.tuple [.str "pump", .int span, .int (times : Int)]] ∧ 1 ≤ span ∧ 1 ≤ times ∧ span.natAbs < BB ∧ times < BB ∧ p.1.natAbs < BB ∧ k (.bool true) n (barF (pumpP s p span times))) ∨
   ∃ c : Comb, ds = [.tuple [.str "grip", c.d]] ∧ c.Ok ∧ held (s.gr, c) (p.1, p.2.1) = true ∧ k (.bool true) n (barF (gripP s p c)))
end PD

/-! PD188: len of an object whose class says it -/
namespace PD
open PySem PySem.Spec PyProof.Rows L2 Evl
section
variable {prog : Program} {w : World} {A : Around} {E : Value → Shared → Prop} {s : Shared} {K : PySem.W.Frag} {a C f : Addr} {ox : Obj} {od : List (Str × Value)}
def SpecialDef (K : PySem.W.Frag) (C f : Addr) (name : Str) : Prop := PySem.W.findIn K (.ref C) name = some (some (.ref f)) ∧ PySem.W.isFn K (.ref f) = true
end
section
variable {X : Cx} {k : Nat} {C f : Addr} {fd : FuncData} {sp : Sp}
def rLenO (C : Addr) (sp : Sp) : List V → Hp → VK → Prop := fun xs H Q => ∃ a dx fs, xs = [.ref a] ∧ H a = some (.ins C dx fs) ∧ sp [.ref a] H (fun v H' => ∃ n : Int, v = .int n ∧ 0 ≤ n ∧ n < 2 ^ 63 ∧ Q (.int n) H') E0
end
section
variable {X : Cx} {k : Nat} {C : Addr} {sp : Sp} {p pos : Pos} {e : Expr} {t : TA}
end
section
variable {c b : Cn} {ds : DS} {pl : List D} {Φ : W → List D → Prop} {l : List Ob} {k i : Nat} {o : Ob} {C : Addr}
end
def lenF : FGt := fun _ fs k => ∃ s, fs = barF s ∧ s.calls.length < 1000 ∧ k (.int (s.calls.length : Int))
end PD

/-! PD189: all that a live bar tells -/
namespace PD
open PySem PySem.Spec PyProof.Rows L2 Evl
def toldD (s : BS) (p : Plc) : D := .list [.int p.1, .int p.2.1, Dv.d (s.gr, p.2.2), .list ((difs (s.plcs.map (·.1))).map PyData.int), .list s.calls, .int (s.calls.length : Int)]
def toldF : FGt := fun _ fs k => ∃ s ps p, fs = barF s ∧ s.plcs = ps ++ [p] ∧ s.calls.length < 1000 ∧ s.plcs.length < 1000 ∧ (∀ d ∈ s.calls, callOk d) ∧ okD 20 (toldD s p) ∧ cnt (toldD s p) ≤ 60000 ∧ k (.str (toldD s p).shown)
end PD

/-! PD190: plain defs that are given an object and change nothing -/
namespace PD
open PySem PySem.Spec PyProof.Rows L2 Evl
section
variable {P : Program} {w : World} {K : PySem.W.Frag} {mg : Str → Option Value} {base : Heap} {k : Nat} {f : Addr} {fd : FuncData} {ps : List Str}
end
end PD

/-! PD191: the calls of a live bar as data of their own; the bar behind calls -/
namespace PD
open PySem PySem.Spec PyProof.Rows L2 Evl
inductive BCall where
  | move (m : Int)
  | pump (s : Int) (t : Nat)
  | grip (c : Comb)
def BCall.d : BCall → D
  | .move m => .tuple [.str "move", .int m]
  | .pump s t => .tuple [.str "pump", .int s, .int (t : Int)]
  | .grip c => .tuple [.str "grip", c.d]
def BCall.Ok : BCall → Prop
  | .move m => m ≠ 0
  | .pump s t => 1 ≤ s ∧ 1 ≤ t
  | .grip c => c.Ok
def BCall.go (g : Comb) (p : Plc) : BCall → Plc
  | .move m => ((mv (g, p.2.2) (p.1, p.2.1) m).1, (mv (g, p.2.2) (p.1, p.2.1) m).2, p.2.2)
  | .pump s t => ((rp (g, p.2.2) [s, -s] (p.1, p.2.1) t).1, p.2.1, p.2.2)
  | .grip c => (p.1, p.2.1, c)
def lastOf (g : Comb) (p : Plc) (cs : List BCall) : Plc := cs.foldl (fun p c => c.go g p) p
def plcsOf (g : Comb) : Plc → List BCall → List Plc
  | p, [] => [p]
  | p, c :: cs => p :: plcsOf g (c.go g p) cs
def barOf (v : Dv) (s : Sv) (cs : List BCall) : BS := ⟨v.1, cs.map BCall.d, plcsOf v.1 (s.1, s.2, v.2) cs⟩
section
variable (v : Dv) (s : Sv) (cs : List BCall)
end
end PD

/-! PD192: what is behind calls, as the laws keep it -/
namespace PD
open PySem PySem.Spec PyProof.Rows L2 Evl
section
variable (v : Dv) (s : Sv) (cs : List BCall)
abbrev endOf : Plc := lastOf v.1 (s.1, s.2, v.2) cs
def aftD : D := .tuple [Dv.d (v.1, (endOf v s cs).2.2), .list ((difs ((plcsOf v.1 (s.1, s.2, v.2) cs).map (·.1))).map PyData.int), Sv.d ((endOf v s cs).1, (endOf v s cs).2.1)]
end
end PD

/-! PD193: calls kept with what is behind them -/
namespace PD
open PySem PySem.Spec PyProof.Rows L2 Evl
section
variable (v : Dv) (s : Sv)
def doneL (cs : List BCall) : List D := (List.range cs.length).map fun i => .tuple [((cs[i]?.map BCall.d).getD .none), aftD v s (cs.take (i + 1))]
end
end PD

/-! PD194: list(zip(xs, ys)), xs and ys lists -/
namespace PD
open PySem PySem.Spec PyProof.Rows L2 Evl
abbrev ZHeld (h : Heap) (z TI TO T : Addr) (f : Bool) : Prop := h.get? z = some { cls := .type "zip", dict := none, data := .fields #[rawInt T, .bool f, .bool false, .ref TI, .ref TO], slots := #[] }
section
variable {prog : Program} {w : World} {A : Around} {E : Value → Shared → Prop} {s : Shared}
def ZSt (h : Heap) (z TI TO i1 i2 l1 l2 S : Addr) (i : Nat) : Prop :=
  IsPair h TI (.ref i1) (.ref i2) ∧ (∃ a b, IsPair h TO a b) ∧ h.IsListIter i1 l1 i ∧ h.IsListIter i2 l2 i ∧ (IsZip h z TI TO .none ∨ ∃ T f o, ZHeld h z TI TO T f ∧ h.get? T = some o ∧ T ≠ z ∧ T ≠ TO ∧ T ≠ i1 ∧ T ≠ i2 ∧ T ≠ S)
structure ZG (xs ys : Array Value) (lo : Addr) (h : Heap) (as : List Addr) : Prop where
  rise : as.Pairwise (· < ·)
  above : ∀ a ∈ as, lo < a
  pairs : ∀ (j : Nat) (a : Addr), as[j]? = some a → ∃ x y, xs[j]? = some x ∧ ys[j]? = some y ∧ IsPair h a x y
end
section
variable {prog : Program} {w : World} {A : Around} {s : Shared} {R : Result → Shared → Prop} {xs ys : Array Value} {z TI TO i1 i2 l1 l2 : Addr}
end
section
variable {prog : Program} {w : World} {A : Around} {E : Value → Shared → Prop} {s : Shared} {xs ys : Array Value} {z TI TO i1 i2 l1 l2 : Addr}
end
def putZ : Hp → List Addr → List (V × V) → Hp
  | H, a :: as, p :: ps => putZ (upd H a (.tup [p.1, p.2])) as ps
  | H, _, _ => H
section
variable {X : Cx}
def tLstZip (K : PySem.W.Frag) (tr : TA) : TE := fun σ H Q => tr σ H fun vs H1 => ∃ (a b : Addr) (us ws : List V), vs = [.ref a, .ref b] ∧ SqL K H1 a us ∧ SqL K H1 b ws ∧
  ∀ (S : Addr) (as : List Addr), H1 S = none → (∀ t ∈ as, H1 t = none) → S ∉ as → as.Nodup → as.length = (us.zip ws).length → Q (.ref S) (putZ (upd H1 S (.lst (as.map V.ref))) as (us.zip ws))
end
section
variable {c : Cn} {K : PySem.W.Frag} {ds : DS} {pl : List D} {Φ : W → List D → Prop} {tr : TA} {G H : Hp} {σ : L2.St}
end
end PD

/-! PD195: objects made within assignments of more names; for over a range with objects -/
namespace PD
open PySem PySem.Spec PyProof.Rows L2 Evl
section
variable {c b : Cn} {K : PySem.W.Frag} {ds : DS} {pl : List D} {t u : TS} {D' : Ends} {G0 G H : Hp} {σ : L2.St} {E : EE} {te ta tb : TE} {tr : TA} {tt : TT} {Ek : XK} {l : List Ob} {k i : Nat} {o : Ob} {C : Addr} {m f : Str}
end
end PD

/-! PD196: live bars that were only moved -/
namespace PD
open PySem PySem.Spec PyProof.Rows L2 Evl
end PD

/-! PD197: rounds far away from any two that stand alike; a dict of numbers and a list, filled as long as two things hold -/
namespace PD
open PySem PySem.Spec PyProof.Rows L2 Evl
section
variable {c : Cn} {K : PySem.W.Frag} {ds : DS} {pl : List D} {t u body : TS} {D' : Ends} {G0 : Hp} {E : EE} {Φ : W → List D → Prop} {te tk tv : TE} {tr : TA} {tt : TT}
end
end PD

/-! PD198: an item of a list by a number from 0 on -/
namespace PD
open PySem PySem.Spec PyProof.Rows L2 Evl
end PD

/-! PD199: calls that are taken, one behind the other -/
namespace PD
open PySem PySem.Spec PyProof.Rows L2 Evl
def BCall.May (g : Comb) (p : Plc) : BCall → Prop
  | .move m => m.natAbs ≤ 10 ^ 40
  | .pump w t => w.natAbs ≤ 10 ^ 20 ∧ t ≤ 10 ^ 20
  | .grip cb => held (g, cb) (p.1, p.2.1) = true
inductive Calls (v : Dv) (s : Sv) : List BCall → Prop
  | nil : v.Ok → held v s = true → s.1.natAbs ≤ 10 ^ 42 → s.2.natAbs ≤ 10 ^ 42 → Calls v s []
  | step {cs : List BCall} {c : BCall} : Calls v s cs → c.Ok → c.May v.1 (endOf v s cs) → Calls v s (cs ++ [c])
section
variable {v : Dv} {s : Sv} {cs : List BCall} {c : BCall}
theorem okD_int {n : Nat} {z : Int} {B : Nat} (h : z.natAbs ≤ B) (hB : B < 10 ^ 150) : PD.okD n (.int z) := by
  cases n <;> exact Nat.lt_of_le_of_lt h hB
end
end PD

/-! PD200: ways of a def that meet; combs with a tooth more -/
namespace PD
open PySem PySem.Spec PyProof.Rows L2 Evl
section
variable {c : Cn} {ds : DS} {pl : List D} {t u : TS} {E : EE}
theorem ws_seqJ (J : DS → List D → Prop) (h : WS c t ds pl { E with nx := J }) (k : ∀ ds' pl', J ds' pl' → WS c u ds' pl' E) : WS c (tSeq t u) ds pl E := ws_seq (ws_mono h k (fun _ _ q => q) (fun _ _ q => q) fun _ _ q => q)
end
end PD

/-! PD201: == of objects whose class says it -/
namespace PD
open PySem PySem.Spec PyProof.Rows L2 Evl
def spE (C : Addr) (F : Nat → Fs → Nat → Fs → (D → Prop) → Prop) : Sp := fun vs H Q _ => ∃ G P1 P2 x n fs y m gs, vs = [.ref x, .ref y] ∧ Ex G H ∧ Ex P1 H ∧ Ex P2 H ∧ Dj P1 G ∧ Dj P2 G ∧ ObjAt P1 G ⟨x, C, n, fs⟩ ∧ ObjAt P2 G ⟨y, C, m, gs⟩ ∧
  F n fs m gs fun d => ∀ v G' H', Ex H H' → Ex G' H' → Ex G G' → (∀ a u, H a = some u → G a = none → G' a = none) → R G' v d → Q v H'
def rEqO (C : Addr) (sp : Sp) : R2 := fun x y H Q => ∃ a b dx dy fs gs, x = .ref a ∧ y = .ref b ∧ H a = some (.ins C dx fs) ∧ H b = some (.ins C dy gs) ∧ sp [.ref a, .ref b] H (fun v H' => ∃ t : Bool, v = .bl t ∧ Q (.bl t) H') E0
section
variable {X : Cx} {k : Nat} {C f : Addr} {fd : FuncData} {sp : Sp}
end
section
variable {c b : Cn} {K : PySem.W.Frag} {ds : DS} {pl : List D} {t u : TS} {D' : Ends} {G0 G H : Hp} {σ : L2.St} {E : EE} {Φ : Cn → W → List D → Prop} {Ψ : W → List D → Prop} {te ta tb : TE} {i j : Nat} {C x y : Addr} {l l2 : List Ob} {b2 : Cn} {kx ky : Nat} {ox oy : Ob} {f g : Str}
end
/-! ### the body of an own == -/
def slotsE (N : List Str) (x y : Addr) : DS := some (.v (.ref x)) :: some (.v (.ref y)) :: List.replicate (N.length - 2) none
section
variable {P : Program} {w : World} {K : PySem.W.Frag} {mg : Str → Option Value} {base : Heap} {k : Nat} {f : Addr} {fd : FuncData}
end
/-! ### live bars -/
def eqF : Nat → Fs → Nat → Fs → (D → Prop) → Prop := fun _ fs _ gs k => ∃ s1 p1 r1 s2 p2 r2, fs = barF s1 ∧ gs = barF s2 ∧ s1.plcs = p1 :: r1 ∧ s2.plcs = p2 :: r2 ∧ okD 20 s1.gr.d ∧ okD 20 s2.gr.d ∧ okD 20 (plcD p1) ∧ okD 20 (plcD p2) ∧ okD 20 (.list s1.calls) ∧ okD 20 (.list s2.calls) ∧
  k (.bool (PyData.eqv s1.gr.d s2.gr.d && (PyData.eqv (plcD p1) (plcD p2) && PyData.eqv (.list s1.calls) (.list s2.calls))))
end PD

/-! PD202: what isinstance asks of a class at the top -/
namespace PD
open PySem PySem.Spec PyProof.Rows L2 Evl
abbrev InsC := @C8.InsC
end PD

/-! PD203: objects: assignments of three, lists of what methods hand back, ways that meet, while, ranges with a step, returns -/
namespace PD
open PySem PySem.Spec PyProof.Rows L2 Evl
def NotO (w : W) : Prop := ∀ xs, w ≠ .o xs
def WAJ (c : Cn) (tr : TA) (ds : DS) (pl : List D) (Φ : Cn → List D → List D → Prop) : Prop := ∀ G σ H, HS c G σ H ds pl → ∀ Q : List V → Hp → Prop, (∀ vs c' G' H' xs pl', HS c' G' σ H' ds pl' → Ex G G' → RA G' vs xs → Φ c' xs pl' → Q vs H') → tr σ H Q
section
variable {c b : Cn} {K : PySem.W.Frag} {ds : DS} {pl : List D} {t u body : TS} {D' D2 : Ends} {G0 G H : Hp} {σ : L2.St} {E : EE} {Φ : Cn → W → List D → Prop} {te ta tb tc : TE} {tr : TA} {tt : TT} {l : List Ob}
end
end PD

/-! PD204: defs whose second argument may be a list that the caller still changes; the list is only read -/
namespace PD
open PySem PySem.Spec PyProof.Rows L2 Evl
def spL (F : List D → (D → Prop) → Prop) : Sp := fun vs H Q _ => ∃ G v1 p us d1 xs, vs = [v1, .ref p] ∧ Ex G H ∧ G p = none ∧ H p = some (.lst us) ∧ RA G us xs ∧ R G v1 d1 ∧ F [d1, .list xs] fun d => ∀ v G' H', Ex H H' → Ex G' H' → Ex G G' → (∀ a u, H a = some u → G a = none → G' a = none) → R G' v d → Q v H'
def spD (F : List D → (D → Prop) → Prop) : Sp := fun vs H Q E => spP F vs H Q E ∨ spL F vs H Q E
def Lent (c : Cn) (p : Addr) (xs : List D) : Prop := ∃ G0 us, Snap c G0 ∧ c.pin p = some (.lst us) ∧ RA G0 us xs
def slotsL (N : List Str) (d : D) (p : Addr) : DS := some (.d d) :: some (.v (.ref p)) :: List.replicate (N.length - 2) none
section
variable {c : Cn} {K : PySem.W.Frag} {ds : DS} {pl : List D} {Φ : W → List D → Prop} {te ta tb : TE} {tr : TA} {Ek : XK} {i j : Nat} {F : List D → (D → Prop) → Prop} {p : Addr} {xs : List D} {A : Type} {enc : A → List D} {pre : A → Prop}
end
section
variable {P : Program} {w : World} {K : PySem.W.Frag} {mg : Str → Option Value} {base : Heap} {k : Nat} {f : Addr} {fd : FuncData} {ps : List Str}
end
end PD

/-! PD205: a part of an owned list, as a new list -/
namespace PD
open PySem PySem.Spec PyProof.Rows L2 Evl
section
variable {c : Cn} {K : PySem.W.Frag} {ds : DS} {pl : List D} {Φ : W → List D → Prop} {i : Nat} {xs : List D}
end
end PD

/-! PD206: an operator whose right side changes objects; the narrow device pumped -/
namespace PD
open PySem PySem.Spec PyProof.Rows L2 Evl
section
variable {c : Cn} {ds : DS} {pl : List D} {Φ : Cn → W → List D → Prop} {tb : TE} {i : Nat}
end
abbrev d35 : Dv := (⟨3, [0]⟩, ⟨5, [0]⟩)
end PD

/-! PD207: for over a list, over its numbered items and over a tuple of objects, objects changed; != of objects -/
namespace PD
open PySem PySem.Spec PyProof.Rows L2 Evl
section
variable {c b : Cn} {K : PySem.W.Frag} {ds : DS} {pl : List D} {t u : TS} {D' : Ends} {G0 G H : Hp} {tl : TE} {tr : TA} {l : List Ob}
end
/-! ### != of objects -/
structure NeC (K : PySem.W.Frag) (C : Addr) : Prop where
  ne : PySem.W.findIn K (.ref C) "__ne__" = some (some (.builtin "object.__ne__"))
  ob : PySem.W.mroIn K C (.type "object") = some true
section
variable {prog : Program} {w : World} {A : Around} {E : Value → Shared → Prop} {s : Shared} {K : PySem.W.Frag} {x y C f : Addr} {ox : Obj} {od : Option Obj}
end
def rNeO (C : Addr) (sp : Sp) : R2 := fun x y H Q => ∃ a b dx dy fs gs, x = .ref a ∧ y = .ref b ∧ H a = some (.ins C dx fs) ∧ H b = some (.ins C dy gs) ∧ sp [.ref a, .ref b] H (fun v H' => ∃ t : Bool, v = .bl t ∧ Q (.bl (!t)) H') E0
section
variable {X : Cx} {k : Nat} {C f : Addr} {fd : FuncData} {sp : Sp}
end
section
variable {c b : Cn} {ds : DS} {pl : List D} {Φ : W → List D → Prop} {i j : Nat} {C : Addr} {l : List Ob} {kx ky : Nat} {ox oy : Ob}
end
end PD

/-! PD208: rises of live bars, summed and cut; lists of unlike lengths; sorted sets of teeth -/
namespace PD
open PySem PySem.Spec PyProof.Rows L2 Evl
end PD

/-! PD209: moves behind calls -/
namespace PD
open PySem PySem.Spec PyProof.Rows L2 Evl
end PD

/-! PD210: min(xs, key=f), f a def of the program -/
namespace PD
open PySem PySem.Spec PyProof.Rows L2 Evl
structure KeyAll (prog : Program) (w : World) (A : Around) (q : Value) (S : Addr) (wr : List Addr) (G : Array GenState → Array GenState → Prop) (n : Nat) (P : Nat → Value → Prop) (St : Nat → Shared → Prop) (KV : List (Nat × Value) → Shared → Prop) (bt : Nat → Nat → Bool) : Prop where
  keep : ∀ l s s', KV l s → Moved (S :: wr) G s s' → KV l s'
  less : ∀ l l' s, KV l s → (∀ p ∈ l', p ∈ l) → KV l' s
  turn : ∀ i v l (s : Shared) (o : Obj) (Q : Value → Shared → Prop) (E : Value → Shared → Prop), i < n → P i v → KV l s → St (i + 1) s → s.heap.get? S = some o → (∀ x, o.data ≠ .cell x) →
    (∀ k s', KV ((i, k) :: l) s' → St (i + 1) s' → s'.heap.get? S = some o → Q k s') → wpAny (model prog w) A (call q [v]) Q E s
  cmp : ∀ i j ki kj l (s : Shared) (Q : Value → Shared → Prop) (E : Value → Shared → Prop), i < n → j < n → (i, ki) ∈ l → (j, kj) ∈ l → KV l s → Q (.bool (bt i j)) s → wpAny (model prog w) A (richCompare .Lt ki kj) Q E s
theorem argBest_le (bt : Nat → Nat → Bool) : ∀ k, argBest bt k ≤ k
  | 0 => Nat.le_refl _
  | k + 1 => by
    unfold argBest
    split
    · exact Nat.le_refl _
    · exact Nat.le_succ_of_le (argBest_le bt k)
section
variable {prog : Program} {w : World} {A : Around} {R : Result → Shared → Prop} {I q : Addr} {fp wr : List Addr} {G : Array GenState → Array GenState → Prop} {n : Nat} {P : Nat → Value → Prop} {St : Nat → Shared → Prop} {KV : List (Nat × Value) → Shared → Prop} {bt : Nat → Nat → Bool}
theorem min_loopA (W : WalksS prog w A.in1 I fp wr G n P St) (S : Addr) (hSf : S ∉ fp) (K : KeyAll prog w A.in1 (.ref q) S wr G n P St KV bt) (kw : List (Str × Value)) :
    ∀ (k j : Nat) (s : Shared) (vb kb : Value) (c : Nat), n - (j + 1) = k → j + 1 ≤ n → KV [(argBest bt j, kb)] s → St (j + 1) s → P (argBest bt j) vb →
    s.heap.get? S = some { cls := .type "list", dict := none, data := .seq #[vb, kb] c, slots := #[] } →
    (∀ v s', P (argBest bt (n - 1)) v → KV [] s' → R (.ok (.ret v)) s') → codeAny (model prog w) A (.builtin "min.loop" ⟨[.ref I, (.ref q), .ref S], kw⟩) R s := by
  have hSw : S ∉ wr := fun h => hSf (W.sub _ h)
  have hsub : ∀ b ∈ wr, b ∈ S :: wr := fun b hb => List.mem_cons_of_mem _ hb
  have hname : (toString "min" ++ toString ".loop" : String) = "min.loop" := by decide
  have notS : ∀ {b : Addr}, b ∉ S :: wr → S ≠ b := fun hb h => hb (by rw [h]; exact List.mem_cons_self)
  intro k
  induction k with
  | zero =>
    intro j s vb kb c hk hj hK hst hPb hS hR
    have hin : j + 1 = n := by omega
    refine codeAny_builtin F.entry_min_loop ?_
    rw [Around.under_plainId F.plain_min_loop _]
    show wpAny _ A.in1 (seqItems? (.ref S) >>= _) _ _ s
    refine wpAny_bind (wpAny_seqItems hS rfl ?_)
    show wpAny _ A.in1 (tryCatch (pyNext (.ref I)) _ >>= _) _ _ s
    refine wpAny_bind (wpAny_tryCatch (W.done s _ _ (hin ▸ hst) fun s' hm => ?_))
    have hS' := hm.heap S _ hSw hS
    show wpAny _ A.in1 (updateSeq S (fun _ => #[]) >>= _) _ _ _
    refine wpAny_bind ?_
    refine wpAny_updateSeq hS' rfl (wpAny_bind (wpAny_letGo (wpAny_pure ?_)))
    exact hR vb _ (by rw [← hin]; exact hPb) (K.less _ _ _ (K.keep _ _ _ hK ((hm.mono hsub).then_heap (tk := s'.toks) (Nat.le_refl _) fun b o hb e => (Heap.get?_update_other _ _ (notS hb)).trans e)) fun p hp => nomatch hp)
  | succ k ih =>
    intro j s vb kb c hk hj hK hst hPb hS hR
    have hlt : j + 1 < n := by omega
    refine codeAny_builtin F.entry_min_loop ?_
    rw [Around.under_plainId F.plain_min_loop _]
    show wpAny _ A.in1 (seqItems? (.ref S) >>= _) _ _ s
    refine wpAny_bind (wpAny_seqItems hS rfl ?_)
    show wpAny _ A.in1 (tryCatch (pyNext (.ref I)) _ >>= _) _ _ s
    refine wpAny_bind (wpAny_tryCatch (W.item (j + 1) s _ _ hlt hst fun v s' hP hst' hm => ?_))
    have hS' := hm.heap S _ hSw hS
    have hK' := K.keep _ _ _ hK (hm.mono hsub)
    show wpAny _ A.in1 (tryCatch (holding [v] (call (.ref q) [v])) _ >>= _) _ _ _
    refine wpAny_bind (wpAny_tryCatch (wpAny_holding (K.turn (j + 1) v _ s' _ _ _ hlt hP hK' hst' hS' (fun _ z => by cases z) fun kx s'' hK2 hst2 hS2 => ?_)))
    show wpAny _ A.in1 (tryCatch (holding [v, kx] (richCompare .Lt kx kb >>= _)) _ >>= _) _ _ _
    refine wpAny_bind (wpAny_tryCatch (wpAny_holding (wpAny_bind (K.cmp (j + 1) (argBest bt j) kx kb _ s'' _ _ hlt (Nat.lt_of_le_of_lt (argBest_le bt j) (by omega)) (List.mem_cons_self ..) (List.mem_cons_of_mem _ (List.mem_cons_self ..)) hK2 ?_))))
    refine wpAny_bind (wpAny_holding (wpAny_truthy_bool ?_))
    refine wpAny_bind (wpAny_letGo (wpAny_pure ?_))
    cases hb : bt (j + 1) (argBest bt j) with
    | true =>
      simp only [if_true]
      refine wpAny_bind ?_
      refine wpAny_updateSeq hS2 rfl (wpAny_bind (wpAny_letGo ?_))
      rw [hname]
      have hm2 : Moved (S :: wr) G s'' { s'' with heap := s''.heap.update S (Obj.mapSeq fun _ => #[v, kx]), toks := s''.toks } := (Moved.refl W.grefl).then_heap (tk := s''.toks) (Nat.le_refl _) fun b o hb e => (Heap.get?_update_other _ _ (notS hb)).trans e
      have eb : argBest bt (j + 1) = j + 1 := by simp only [argBest, hb, if_true]
      refine wpAny_pure ⟨plainId_quiet F.plain_min_loop _, ih (j + 1) _ v kx _ (by omega) hlt (by rw [eb]; exact K.less _ _ _ (K.keep _ _ _ hK2 hm2) fun p hp => by rw [List.mem_singleton.mp hp]; exact List.mem_cons_self ..) (W.frame _ s'' _ s''.toks hst2 (Nat.le_refl _) fun b hbf o e => ?_) (by rw [eb]; exact hP) (Heap.get?_update_self _ hS2 rfl) hR⟩
      exact (Heap.get?_update_other _ _ (fun h : S = b => hSf (by rw [h]; exact hbf))).trans e
    | false =>
      simp only [Bool.false_eq_true, if_false]
      refine wpAny_bind (wpAny_letGo ?_)
      rw [hname]
      have eb : argBest bt (j + 1) = argBest bt j := by simp only [argBest, hb, Bool.false_eq_true, if_false]
      exact wpAny_pure ⟨plainId_quiet F.plain_min_loop _, ih (j + 1) _ vb kb c (by omega) hlt (by rw [eb]; exact K.less _ _ _ hK2 fun p hp => List.mem_cons_of_mem _ hp) hst2 (by rw [eb]; exact hPb) hS2 hR⟩
theorem min_firstA (W : WalksS prog w A.in1 I fp wr G n P St) (S : Addr) (hSf : S ∉ fp) (K : KeyAll prog w A.in1 (.ref q) S wr G n P St KV bt) (kw : List (Str × Value)) (hn : 0 < n) {s : Shared} {c : Nat} (hK : KV [] s) (hst : St 0 s)
    (hS : s.heap.get? S = some { cls := .type "list", dict := none, data := .seq #[] c, slots := #[] })
    (hR : ∀ v s', P (argBest bt (n - 1)) v → KV [] s' → R (.ok (.ret v)) s') : codeAny (model prog w) A (.builtin "min.loop" ⟨[.ref I, (.ref q), .ref S], kw⟩) R s := by
  have hSw : S ∉ wr := fun h => hSf (W.sub _ h)
  have hsub : ∀ b ∈ wr, b ∈ S :: wr := fun b hb => List.mem_cons_of_mem _ hb
  have hname : (toString "min" ++ toString ".loop" : String) = "min.loop" := by decide
  have notS : ∀ {b : Addr}, b ∉ S :: wr → S ≠ b := fun hb h => hb (by rw [h]; exact List.mem_cons_self)
  refine codeAny_builtin F.entry_min_loop ?_
  rw [Around.under_plainId F.plain_min_loop _]
  show wpAny _ A.in1 (seqItems? (.ref S) >>= _) _ _ s
  refine wpAny_bind (wpAny_seqItems hS rfl ?_)
  show wpAny _ A.in1 (tryCatch (pyNext (.ref I)) _ >>= _) _ _ s
  refine wpAny_bind (wpAny_tryCatch (W.item 0 s _ _ hn hst fun v s' hP hst' hm => ?_))
  have hS' := hm.heap S _ hSw hS
  have hK' := K.keep _ _ _ hK (hm.mono hsub)
  show wpAny _ A.in1 (tryCatch (holding [v] (call (.ref q) [v])) _ >>= _) _ _ _
  refine wpAny_bind (wpAny_tryCatch (wpAny_holding (K.turn 0 v _ s' _ _ _ hn hP hK' hst' hS' (fun _ z => by cases z) fun kx s'' hK2 hst2 hS2 => ?_)))
  show wpAny _ A.in1 (updateSeq S (fun _ => #[v, kx]) >>= _) _ _ _
  refine wpAny_bind ?_
  refine wpAny_updateSeq hS2 rfl ?_
  rw [hname]
  have hm2 : Moved (S :: wr) G s'' { s'' with heap := s''.heap.update S (Obj.mapSeq fun _ => #[v, kx]), toks := s''.toks } := (Moved.refl W.grefl).then_heap (tk := s''.toks) (Nat.le_refl _) fun b o hb e => (Heap.get?_update_other _ _ (notS hb)).trans e
  refine wpAny_pure ⟨plainId_quiet F.plain_min_loop _, min_loopA W S hSf K kw _ 0 _ v kx _ rfl hn (K.keep _ _ _ hK2 hm2) (W.frame _ s'' _ s''.toks hst2 (Nat.le_refl _) fun b hbf o e => ?_) hP (Heap.get?_update_self _ hS2 rfl) hR⟩
  exact (Heap.get?_update_other _ _ (fun h : S = b => hSf (by rw [h]; exact hbf))).trans e
end
section
variable {prog : Program} {w : World} {A : Around} {E : Value → Shared → Prop} {s : Shared}
theorem call_minA {x : Value} {q : Addr} {Q : Value → Shared → Prop}
    (h : wpAny (model prog w) A.in1 (pyIter x) (fun it s₂ => ∃ I fp wr G n P St KV bt, it = .ref I ∧ WalksS prog w A.in1 I fp wr G n P St ∧ St 0 s₂ ∧ (∀ b ∈ fp, b < s₂.heap.objs.size) ∧ 0 < n ∧ 
      KeyAll prog w A.in1 (.ref q) s₂.heap.objs.size wr G n P St KV bt ∧ KV [] s₂ ∧ ∀ v s', P (argBest bt (n - 1)) v → KV [] s' → Q v s') E s) :
    wpAny (model prog w) A (call (.builtin "min") [x] [(Str.ofString "key", .ref q)]) Q E s := by
  have hname : (toString "min" ++ toString ".loop" : String) = "min.loop" := by decide
  refine PyProof.Rows.kmk_tree F.kind_min F.plain_min F.entry_min (PyProof.Rows.kmk_min_key _ _) ?_
  show wpAny _ A.in1 (Builtin.Builtins.bindParams "min" ["key", "default"] 0 ⟨[], [(Str.ofString "key", .ref q)]⟩ >>= _) _ _ s
  refine wpAny_bind (wpAny_of_eq (show Builtin.Builtins.bindParams "min" ["key", "default"] 0 ⟨[], [(Str.ofString "key", .ref q)]⟩ = pure [some (.ref q), none] from rfl) ?_)
  refine wpAny_bind (wpAny_pure ?_)
  refine wpAny_bind (wpAny_mono h (fun it s₂ h₂ => ?_) fun _ _ e => e)
  obtain ⟨I, fp, wr, G, n, P, St, KV, bt, rfl, W, hst, hfp, hn, K, hK, hQ⟩ := h₂
  refine wpAny_bind (wpAny_newObj_type ?_)
  have hSf : s₂.heap.objs.size ∉ fp := fun hm => Nat.lt_irrefl _ (hfp _ hm)
  rw [hname]
  have hm0 : Moved (s₂.heap.objs.size :: wr) G s₂ { s₂ with heap := s₂.heap.push { cls := .type "list", data := .seq #[] 0 }, toks := s₂.toks } := (Moved.refl W.grefl).then_heap (tk := s₂.toks) (Nat.le_refl _) fun b o _ e => Heap.get?_push_of_some _ e
  have hst' := W.frame 0 s₂ (s₂.heap.push { cls := .type "list", data := .seq #[] 0 }) s₂.toks hst (Nat.le_refl _) fun b _ o e => Heap.get?_push_of_some _ e
  exact wpAny_pure ⟨plainId_quiet F.plain_min_loop _, min_firstA W s₂.heap.objs.size hSf K _ hn (K.keep _ _ _ hK hm0) hst' (Heap.get?_push_size _ rfl) hQ⟩
end

def rMinK (K : PySem.W.Frag) (sp : Sp) : List V → Hp → VK → Prop := fun vs H Q => ∃ (a : Addr) (xs : List V) (kd : Nat → PyData) (Kn : List (V × Nat) → Hp → Prop), vs = [.ref a] ∧ 0 < xs.length ∧ Kn [] H ∧
  (∀ l H2, Kn l H2 → SqL K H2 a xs) ∧ (∀ l H2 y i, Kn l H2 → (y, i) ∈ l → Dp K H2 y (kd i)) ∧
  (∀ l i x H2, xs[i]? = some x → Kn l H2 → sp [x] H2 (fun y H3 => Kn ((y, i) :: l) H3) E0) ∧
  (∀ i j, i < xs.length → j < xs.length → PySem.W.alike (kd i) (kd j) = true ∧ kd i ≠ .none ∧ (kd i).depth ≤ 20) ∧
  ∀ l x H2, Kn l H2 → xs[argBest (fun i j => PySem.W.dataLt (kd i) (kd j)) (xs.length - 1)]? = some x → Q x H2
def tMinK (K : PySem.W.Frag) (sp : Sp) (t : TA) : TE := fun σ H Q => t σ H fun vs H1 => rMinK K sp vs H1 Q
theorem boot_minK : bootBuiltins "min" = some (.builtin "min") := by kernel_rfl
section
variable {X : Cx} {k : Nat} {fn pn : Str} {sp : Sp} {e : Expr} {t : TA} {p p2 kpos pos : Pos}
theorem minK_run {f : Addr} {fd : FuncData} {pins : List (Addr × Obj)} {s : Shared} {σ : L2.St} {H : Hp} {Q : VK} {us : List Value} {vs : List V} (hG : X.A.guards = some []) (F : FG X.prog X.w X.K X.mg X.base k f fd [pn] sp) (hr : Room (k + 1) X.A) (hb : Binds X.K fd [pn] [])
    (I : Inv X pins σ H s) (r : Vals vs us) (h : rMinK X.K sp vs H Q) : wpAny (model X.prog X.w) X.A (call (.builtin "min") us [(Str.ofString "key", .ref f)]) (EP X pins σ Q) X.xe s := by
  obtain ⟨a, xs, kd, Kn, rfl, hn, k0, kl, kdp, kt, kal, q⟩ := h
  obtain rfl := Vals.ref1 r
  obtain ⟨its, rv, pl, hz⟩ := I.list (kl _ _ k0)
  have hh : X.A.in1.handled = none := hr.hd
  have la : a < s.heap.objs.size := pl.lt
  have il := rv.length
  refine call_minA (wpAny_pyIter_list pl.isList ?_)
  obtain ⟨it, hit⟩ : ∃ it, it = s.heap.objs.size := ⟨_, rfl⟩
  obtain ⟨s3, hs3⟩ : ∃ s3 : Shared, s3 = { s with heap := s.heap.push { cls := .type "list_iterator", data := .fields #[.ref a, .int 0 0] } } := ⟨_, rfl⟩
  have z3 : s3.heap.objs.size = it + 1 := by rw [hs3, hit]; exact Heap.size_push ..
  obtain ⟨S, hS⟩ : ∃ S, S = s3.heap.objs.size := ⟨_, rfl⟩
  have I3 : Inv X pins σ H s3 := by
    rw [hs3]
    exact I.kept (t' := s.toks) fun b o e => Heap.get?_push_of_some _ e
  have git : s3.heap.IsListIter it a 0 := by
    rw [hs3, hit]
    exact ⟨_, Heap.get?_push_size _ rfl, rfl, rfl⟩
  have gl : s3.heap.IsList a its.toArray := by
    rw [hs3]
    exact pl.isList.at fun o e => Heap.get?_push_of_some _ e
  have nia : a ≠ it := by rw [hit]; exact Nat.ne_of_lt la
  have niS : it ≠ S := by rw [hS, z3]; exact Nat.ne_of_lt (Nat.lt_succ_self _)
  have stat : ∀ (H' : Hp), H' it = none → H' S = none → ∀ b ∈ [S, it], FpOk X pins H' b := fun H' n1 n2 b hb => by
    have e' : b = S ∨ b = it := by simpa using hb
    rcases e' with e' | e'
    · rw [e']
      refine ⟨n2, (I3.fpOk (H' := H) (b := S) (by rw [hS]; exact Nat.le_refl _) (I3.hok.fresh (by rw [hS]; exact Nat.le_refl _))).2⟩
    · rw [e']
      refine ⟨n1, (I.fpOk (H' := H) (b := it) (by rw [hit]; exact Nat.le_refl _) (I.hok.fresh (by rw [hit]; exact Nat.le_refl _))).2⟩
  rw [← hs3, ← hit]
  refine ⟨it, [it, a], [it], fun a b => b = a, xs.length, fun i v => ∃ x, xs[i]? = some x ∧ RelV x v, fun i s => s.heap.IsListIter it a i ∧ ∃ its : List Value, s.heap.IsList a its.toArray ∧ Vals xs its,
    fun l s => ∃ H' ys, Inv X pins σ H' s ∧ Kn ys H' ∧ H' it = none ∧ H' S = none ∧ ∀ p ∈ l, ∃ y, (y, p.1) ∈ ys ∧ RelV y p.2, fun i j => PySem.W.dataLt (kd i) (kd j), rfl, ?_, ⟨git, its, gl, rv⟩, ?_, hn, ?_, ?_, ?_⟩
  · refine ⟨fun b hb => by simp at hb; simp [hb], fun _ => rfl, fun _ _ _ h1 h2 => h2.trans h1, fun i s h' tk st _ hk => ?_, fun i s Q E hi st hQ => ?_, fun s Q E st hQ => ?_, fun i s Q E st hQ => ?_⟩
    · obtain ⟨h1, its', h2, h3⟩ := st
      exact ⟨h1.at fun o e => hk it (by simp) o e, its', h2.at fun o e => hk a (by simp) o e, h3⟩
    · obtain ⟨h1, its', h2, h3⟩ := st
      have hl := h3.length
      refine (Walks.list (prog := X.prog) (w := X.w) hh it a nia its'.toArray).toS.item i s Q E (by rw [List.size_toArray]; omega) ⟨h1, h2⟩ fun v s' hP st' hm => hQ v s' ?_ ⟨st'.1, its', st'.2, h3⟩ hm
      have hi' : i < xs.length := hi
      obtain ⟨u, hu, ru⟩ := h3.get (List.getElem?_eq_getElem hi')
      have hP' : its'[i]? = some v := by simpa using hP
      rw [hu] at hP'
      cases hP'
      exact ⟨_, List.getElem?_eq_getElem hi', ru⟩
    · obtain ⟨h1, its', h2, h3⟩ := st
      have hl := h3.length
      exact (Walks.list (prog := X.prog) (w := X.w) hh it a nia its'.toArray).toS.done s Q E ⟨by rw [List.size_toArray, ← hl]; exact h1, h2⟩ hQ
    · obtain ⟨h1, its', h2, h3⟩ := st
      exact (Walks.list (prog := X.prog) (w := X.w) hh it a nia its'.toArray).toS.self i s Q E ⟨h1, h2⟩ hQ
  · intro b hb
    have e' : b = it ∨ b = a := by simpa using hb
    rw [z3]
    rcases e' with e' | e'
    · rw [e']; exact Nat.lt_succ_self _
    · rw [e', hit]; exact Nat.lt_succ_of_lt la
  · rw [← hS]
    refine ⟨?_, ?_, ?_, ?_⟩
    · rintro l s s' ⟨H', ys, I', kn, n1, n2, kl'⟩ hm
      refine ⟨H', ys, ?_, kn, n1, n2, kl'⟩
      have := I'.turnedL (h' := s'.heap) (t' := s'.toks) (ch := [S, it]) (fun b o hb e => hm.heap b o hb e) (stat H' n1 n2)
      obtain ⟨hp, g, d, tk, os⟩ := s'
      have g1 : g = s.gens := hm.gens
      have g2 : d = s.drawn := hm.drawn
      have g3 : os = s.os := hm.os
      subst g1 g2 g3
      exact this
    · rintro l l' s ⟨H', ys, I', kn, n1, n2, kl'⟩ hl
      exact ⟨H', ys, I', kn, n1, n2, fun p hp => kl' p (hl p hp)⟩
    · rintro i v l s o Q E hi ⟨x, hx, rx⟩ ⟨H', ys, I', kn, n1, n2, kl'⟩ ⟨h1, _⟩ hSo hcell hQ
      have I4 : Inv X (pins ++ pinsAt [S, it] s.heap) σ H' s := I'.pinned (stat H' n1 n2) fun b hb => by
        have e' : b = S ∨ b = it := by simpa using hb
        rcases e' with e' | e'
        · rw [e']; exact ⟨o, hSo, hcell⟩
        · obtain ⟨oi, ho, hc, hd⟩ := h1
          rw [e']
          exact ⟨oi, ho, fun v z => by rw [hd] at z; cases z⟩
      obtain ⟨oi, ho, hoi⟩ := h1
      have n : ([v] ++ [] : List Value).length = [pn].length := rfl
      have b := hb s [v] I'.kIn n
      rw [List.append_nil] at b
      apply wpAny_call
      refine codeAny_mono (F.goes X.A.in1 X.stack s H' ⟨[v], []⟩ [v] [x] _ E0 hG hr.in1 I'.env0.in1 b (.cons rx .nil) (kt ys i x H' hx kn)) ?_
      intro res s2 hq
      match res, hq with
      | .ok (.ret u), hq =>
        obtain ⟨y, H3, I5, ry, kn3⟩ := I4.after hq
        have mS : (S, o) ∈ X.pn ++ (pins ++ pinsAt [S, it] s.heap) := List.mem_append_right _ (List.mem_append_right _ (List.mem_filterMap.mpr ⟨S, by simp, by rw [hSo]; rfl⟩))
        have mI : (it, oi) ∈ X.pn ++ (pins ++ pinsAt [S, it] s.heap) := List.mem_append_right _ (List.mem_append_right _ (List.mem_filterMap.mpr ⟨it, by simp, by rw [ho]; rfl⟩))
        have pS := I5.pin _ mS
        have pI := I5.pin _ mI
        obtain ⟨its', rv', pl', _⟩ := I5.list (kl _ _ kn3)
        refine hQ u s2 ⟨H3, (y, i) :: ys, I5.unpinned, kn3, pI.2.1, pS.2.1, fun p hp => ?_⟩ ⟨⟨oi, pI.1, hoi⟩, its', pl'.isList, rv'⟩ pS.1
        rcases List.mem_cons.mp hp with z | z
        · rw [z]; exact ⟨y, List.mem_cons_self .., ry⟩
        · obtain ⟨y', m', r'⟩ := kl' p z
          exact ⟨y', List.mem_cons_of_mem _ m', r'⟩
      | .ok .next, hq => exact hq.elim
      | .ok .brk, hq => exact hq.elim
      | .ok .cont, hq => exact hq.elim
      | .error er, hq => exact hq.elim
    · rintro i j ki kj l s Q E hi hj mi mj ⟨H', ys, I', kn, n1, n2, kl'⟩ hQ
      obtain ⟨yi, yi1, yi2⟩ := kl' _ mi
      obtain ⟨yj, yj1, yj2⟩ := kl' _ mj
      obtain ⟨as, r1⟩ := Dp.reads I' _ _ _ (kdp _ _ _ _ kn yi1) yi2
      obtain ⟨bs, r2⟩ := Dp.reads I' _ _ _ (kdp _ _ _ _ kn yj1) yj2
      obtain ⟨al, nn, dp⟩ := kal i j hi hj
      have hu := hr.un
      exact PySem.W.rcLt_alike _ _ X.A.in1 s ki kj as bs r1 r2 al nn (by
        have : min (kd i).depth (kd j).depth ≤ 20 := Nat.le_trans (Nat.min_le_left _ _) dp
        show X.A.units + 1 + min (kd i).depth (kd j).depth < _
        omega) _ _ _ _ hQ
  · exact ⟨H, [], I3, k0, by rw [hit]; exact I.hok.fresh (Nat.le_refl _), by rw [hS]; exact I3.hok.fresh (Nat.le_refl _), fun p hp => nomatch hp⟩
  · rintro v s' ⟨x, hx, rx⟩ ⟨H', ys, I', kn, _⟩
    exact ⟨x, H', I', rx, q ys x H' kn hx⟩
theorem pe_minK (F : Df X.prog X.w X.K X.mg X.base k fn [pn] sp) (hG : X.A.guards = some []) (hr : Room (k + 1) X.A) (hg : Gl X "min") (hm : X.mg "min" = none) (hgf : Gl X fn) (ha : PA X [e] t) (hdf : (fn == ("__debug__" : Str)) = false := by decide)
    (he : backTo pos (starEach [e] X.env) = (false, eval e X.env) :: backTo pos (starEach [] X.env) := by rfl) (hpl : (backTo pos (starEach [e] X.env)).any (·.1) = false := by rfl) :
    PE X (.Call (.Name "min" p) [e] [⟨some "key", .Name fn p2, kpos⟩] pos) (tMinK X.K sp t) := by
  obtain ⟨f, fd, G, m, kp, b, _⟩ := F
  refine ⟨fun pins s σ H Q I h => ?_⟩
  refine wpAny_Call_Name_kw (ld_blt I hg hm boot_minK ?_)
  have hk : PK X [⟨some "key", .Name fn p2, kpos⟩] (tCons (tC (.ref f)) tNil) := pk_cons (pe_glob hgf m rfl hdf) pk_nil
  refine PyProof.Rows.callWith_kw (thn (ha.run pos pins s σ H _ I h) fun us s1 ⟨vs, H1, I1, r1, q1⟩ => thn (hk.run pos pins s1 σ H1 (fun zs H2 => zs = [.ref f] ∧ H2 = H1) I1 ⟨rfl, rfl⟩) fun ws s2 ⟨zs, H2, I2, r2, ez, eH⟩ => ?_) he hpl (by rfl) (by rfl)
  subst ez eH
  obtain rfl := Vals.ref1 r2
  exact minK_run hG G hr b I2 r1 q1
end
section
variable {c : Cn} {K : PySem.W.Frag} {ds : DS} {pl : List D} {Φ : W → List D → Prop} {tr : TA}
theorem ra_at {G : Hp} : ∀ {us : List V} {ys : List D}, RA G us ys → ∀ (i : Nat) (u : V), us[i]? = some u → ∃ y, ys[i]? = some y ∧ R G u y
  | _, _, .nil, i, u, h => by simp at h
  | _, _, .cons r t, 0, u, h => by cases h; exact ⟨_, rfl, r⟩
  | _, _, .cons r t, i + 1, u, h => ra_at t i u h
end
end PD

/-! PD211: moves that part (mathematics) -/
namespace PD
open PySem PySem.Spec PyProof.Rows L2 Evl
/-! ### order of ranks -/
theorem lex_int (a b : Int) (l m : List (Int ⊕ List Nat)) : PyProof.Rows.lexLt itemOrd (Sum.inl a :: l) (Sum.inl b :: m) = (decide (a < b) || (decide (a = b) && PyProof.Rows.lexLt itemOrd l m)) := by
  rw [PyProof.Rows.lex_cons]
  show (decide (a < b) || (!decide (b < a) && _)) = _
  by_cases h1 : a < b
  · simp [h1]
  · by_cases h2 : a = b
    · subst h2; simp
    · have h3 : b < a := by omega
      simp [h1, h2, h3]
def rkD (ms : List Int) : D := .tuple [.int (ms.map fun m => if m < 0 then -m else m).sum, .list (ms.map PyData.int)]
def sz1 (m : Int) : Int := if m < 0 then -m else m
def lt1 (x y : Int) : Prop := sz1 x < sz1 y ∨ (sz1 x = sz1 y ∧ x < y)
def lt2 (x y : Int × Int) : Prop := sz1 x.1 + sz1 x.2 < sz1 y.1 + sz1 y.2 ∨ (sz1 x.1 + sz1 x.2 = sz1 y.1 + sz1 y.2 ∧ (x.1 < y.1 ∨ (x.1 = y.1 ∧ x.2 < y.2)))
theorem rk_1 (x y : Int) : PySem.W.dataLt (rkD [x]) (rkD [y]) = true ↔ lt1 x y := by
  unfold rkD PySem.W.dataLt lt1
  simp only [PySem.W.keyToks, PySem.W.keyToksAll, List.map_cons, List.map_nil, List.cons_append, List.nil_append, lex_int, List.sum_cons, List.sum_nil, Int.add_zero]
  show _ ↔ sz1 x < sz1 y ∨ _
  have e1 : (if x < 0 then -x else x) = sz1 x := rfl
  have e2 : (if y < 0 then -y else y) = sz1 y := rfl
  have e3 : PyProof.Rows.lexLt itemOrd [] [] = false := by rw [PyProof.Rows.lexLt]
  rw [e1, e2]
  repeat erw [lex_int]
  rw [e3]
  clear e1 e2
  simp only [Bool.or_eq_true, Bool.and_eq_true, decide_eq_true_eq, Int.lt_irrefl, true_and, false_or, and_false, or_false, Bool.false_eq_true]
theorem rk_2 (a b y z : Int) : PySem.W.dataLt (rkD [a, b]) (rkD [y, z]) = true ↔ lt2 (a, b) (y, z) := by
  unfold rkD PySem.W.dataLt lt2
  simp only [PySem.W.keyToks, PySem.W.keyToksAll, List.map_cons, List.map_nil, List.cons_append, List.nil_append, lex_int, List.sum_cons, List.sum_nil, Int.add_zero]
  have e1 : (if a < 0 then -a else a) = sz1 a := rfl
  have e2 : (if b < 0 then -b else b) = sz1 b := rfl
  have e4 : (if y < 0 then -y else y) = sz1 y := rfl
  have e5 : (if z < 0 then -z else z) = sz1 z := rfl
  have e3 : PyProof.Rows.lexLt itemOrd [] [] = false := by rw [PyProof.Rows.lexLt]
  rw [e1, e2, e4, e5]
  repeat erw [lex_int]
  rw [e3]
  clear e1 e2 e4 e5
  simp only [Bool.or_eq_true, Bool.and_eq_true, decide_eq_true_eq, Int.lt_irrefl, true_and, false_or, and_false, or_false, Bool.false_eq_true]
theorem rk_alike (a b : List Int) : PySem.W.alike (rkD a) (rkD b) = true := by
  unfold rkD
  have h : ∀ a b : List Int, PySem.W.alikeAll (a.map PyData.int) (b.map PyData.int) = true := fun a => by
    induction a with
    | nil => intro b; simp [PySem.W.alikeAll]
    | cons x a ih => intro b; cases b with
      | nil => simp [PySem.W.alikeAll]
      | cons y b => simp [PySem.W.alikeAll, PySem.W.alike, ih b]
  simp [PySem.W.alikeAll, PySem.W.alike, h a b]
theorem depth_ints (a : List Int) : PyData.depthAll (a.map PyData.int) ≤ 1 := by
  induction a with
  | nil => simp [PyData.depthAll]
  | cons x a ih => simp only [List.map_cons, PyData.depthAll, PyData.depth]; omega
theorem rk_depth (a : List Int) : (rkD a).depth ≤ 20 := by
  unfold rkD
  have := depth_ints a
  simp only [PyData.depth, PyData.depthAll]
  omega
theorem best_least {n : Nat} (bt : Nat → Nat → Bool) (irr : ∀ i, bt i i = false) (tr : ∀ i j k, i < n → j < n → k < n → bt i j = true → bt j k = true → bt i k = true) : ∀ k, k < n → ∀ j, j ≤ k → bt j (argBest bt k) = false
  | 0, _, j, hj => by
    have : j = 0 := by omega
    subst this
    exact irr 0
  | k + 1, hk, j, hj => by
    have ih := best_least bt irr tr k (by omega)
    have hb := argBest_le bt k
    unfold argBest
    cases h : bt (k + 1) (argBest bt k) with
    | true =>
      simp only [if_true]
      by_cases e : j = k + 1
      · subst e; exact irr _
      · cases q : bt j (k + 1) with
        | false => rfl
        | true =>
          have := tr j (k + 1) (argBest bt k) (by omega) hk (by omega) q h
          rw [ih j (by omega)] at this
          cases this
    | false =>
      simp only [Bool.false_eq_true, if_false]
      by_cases e : j = k + 1
      · subst e; exact h
      · exact ih j (by omega)
/-! ### slacks seen from elsewhere -/
theorem slk_same {b c : Comb} (ob : b.Ok) (oc : c.Ok) {d : Int} (h : ∀ n, caught b n = caught c (n + d)) (n : Int) : slk b n = slk c (n + d) := by
  have f := flo_spec oc (n + d)
  have e : flo b n = flo c (n + d) - d := flo_uniq ob ⟨by have := f.1; omega, by rw [h, show flo c (n + d) - d + d = flo c (n + d) by omega]; exact f.2.1, fun m m0 m1 => by rw [h]; exact f.2.2 (m + d) (by omega) (by omega)⟩
  unfold slk
  omega
theorem slk_down {c : Comb} (ok : c.Ok) {n k : Int} (k0 : 0 ≤ k) (k1 : k ≤ slk c n) : slk c (n - k) = slk c n - k := by
  have f := flo_spec ok n
  unfold slk at k1 ⊢
  have e : flo c (n - k) = flo c n := flo_uniq ok ⟨by omega, f.2.1, fun m m0 m1 => f.2.2 m m0 (by omega)⟩
  omega
/-! ### rises -/
def rs (v : Dv) (s : Sv) (m : Int) : Int := (mv v s m).1 - s.1
theorem rs_up {v : Dv} {s : Sv} {m : Int} (h : 0 < m) : rs v s m = m - min m (slk v.2 (lf s)) := by
  unfold rs
  rw [mv_up' h]
  show s.1 + m - _ - s.1 = _
  omega
theorem rs_down {v : Dv} {s : Sv} {m : Int} (h : m < 0) : rs v s m = -(min (-m) (slk v.1 s.1)) := by
  unfold rs
  rw [mv_down' (by omega)]
  show s.1 - _ - s.1 = _
  omega
theorem min_ne (m x y : Int) : min m x ≠ min m y ↔ x ≠ y ∧ min x y < m := by omega
section
variable {v w : Dv} {s t : Sv}
theorem part_up {m : Int} (h : 0 < m) : rs v s m ≠ rs w t m ↔ slk v.2 (lf s) ≠ slk w.2 (lf t) ∧ min (slk v.2 (lf s)) (slk w.2 (lf t)) < m := by
  rw [rs_up h, rs_up h, ← min_ne]
  omega
theorem part_down {m : Int} (h : m < 0) : rs v s m ≠ rs w t m ↔ slk v.1 s.1 ≠ slk w.1 t.1 ∧ min (slk v.1 s.1) (slk w.1 t.1) < -m := by
  rw [rs_down h, rs_down h, ← min_ne]
  omega
theorem no_single (v1 : v.Ok) (w1 : w.Ok) : (∀ m, m ≠ 0 → rs v s m = rs w t m) ↔ slk v.1 s.1 = slk w.1 t.1 ∧ slk v.2 (lf s) = slk w.2 (lf t) := by
  have a1 := slk_nn v1.1 s.1
  have a2 := slk_nn w1.1 t.1
  have b1 := slk_nn v1.2 (lf s)
  have b2 := slk_nn w1.2 (lf t)
  constructor
  · intro h
    constructor
    · refine Classical.byContradiction fun z => ?_
      exact (part_down (v := v) (w := w) (s := s) (t := t) (m := -(min (slk v.1 s.1) (slk w.1 t.1) + 1)) (by omega)).mpr ⟨z, by omega⟩ (h _ (by omega))
    · refine Classical.byContradiction fun z => ?_
      exact (part_up (v := v) (w := w) (s := s) (t := t) (m := min (slk v.2 (lf s)) (slk w.2 (lf t)) + 1) (by omega)).mpr ⟨z, by omega⟩ (h _ (by omega))
  · rintro ⟨h1, h2⟩ m m0
    refine Classical.byContradiction fun z => ?_
    rcases Int.lt_or_gt_of_ne m0 with q | q
    · exact ((part_down q).mp z).1 h1
    · exact ((part_up q).mp z).1 h2
theorem two_part (v1 : v.Ok) (w1 : w.Ok) (h1 : slk v.1 s.1 = slk w.1 t.1) (h2 : slk v.2 (lf s) = slk w.2 (lf t)) {y z : Int} (y0 : y ≠ 0) (z0 : z ≠ 0) :
    rs v (mv v s y) z ≠ rs w (mv w t y) z ↔
      (∃ n : Int, 1 ≤ n ∧ y = slk v.2 (lf s) + n ∧ z < 0 ∧ slk v.1 (n + s.1) ≠ slk w.1 (n + t.1) ∧ min (slk v.1 (n + s.1)) (slk w.1 (n + t.1)) < -z) ∨
      (∃ n : Int, 1 ≤ n ∧ y = -(slk v.1 s.1 + n) ∧ 0 < z ∧ slk v.2 (n + lf s) ≠ slk w.2 (n + lf t) ∧ min (slk v.2 (n + lf s)) (slk w.2 (n + lf t)) < z) := by
  have a1 := slk_nn v1.1 s.1
  have b1 := slk_nn v1.2 (lf s)
  rcases Int.lt_or_gt_of_ne y0 with q | q
  · -- down first
    have ev : mv v s y = (s.1 - min (-y) (slk v.1 s.1), s.2 + y) := mv_down' (by omega)
    have ew : mv w t y = (t.1 - min (-y) (slk v.1 s.1), t.2 + y) := by rw [mv_down' (by omega), ← h1]
    rw [ev, ew]
    rcases Int.lt_or_gt_of_ne z0 with r | r
    · rw [part_down r]
      have e1 : slk v.1 (s.1 - min (-y) (slk v.1 s.1)) = slk v.1 s.1 - min (-y) (slk v.1 s.1) := slk_down v1.1 (by omega) (by omega)
      have e2 : slk w.1 (t.1 - min (-y) (slk v.1 s.1)) = slk w.1 t.1 - min (-y) (slk v.1 s.1) := slk_down w1.1 (by omega) (by omega)
      constructor
      · rintro ⟨n1, _⟩
        exact absurd (by show slk v.1 (s.1 - min (-y) (slk v.1 s.1)) = slk w.1 (t.1 - min (-y) (slk v.1 s.1)); rw [e1, e2, h1]) n1
      · rintro (⟨n, _, e, _⟩ | ⟨n, _, _, e, _⟩)
        · omega
        · omega
    · rw [part_up r]
      have l1 : lf (s.1 - min (-y) (slk v.1 s.1), s.2 + y) = lf s - min (-y) (slk v.1 s.1) - y := by show _ - _ - (_ + _) = s.1 - s.2 - _ - _; omega
      have l2 : lf (t.1 - min (-y) (slk v.1 s.1), t.2 + y) = lf t - min (-y) (slk v.1 s.1) - y := by show _ - _ - (_ + _) = t.1 - t.2 - _ - _; omega
      rw [l1, l2]
      by_cases k : -y ≤ slk v.1 s.1
      · rw [Int.min_eq_left k, show lf s - -y - y = lf s by omega, show lf t - -y - y = lf t by omega]
        constructor
        · rintro ⟨n1, _⟩; exact absurd h2 n1
        · rintro (⟨n, _, _, e, _⟩ | ⟨n, _, e, _⟩)
          · omega
          · omega
      · rw [Int.min_eq_right (by omega)]
        constructor
        · rintro ⟨n1, n2⟩
          refine .inr ⟨-y - slk v.1 s.1, by omega, by omega, r, ?_, ?_⟩
          · rw [show -y - slk v.1 s.1 + lf s = lf s - slk v.1 s.1 - y by omega, show -y - slk v.1 s.1 + lf t = lf t - slk v.1 s.1 - y by omega]; exact n1
          · rw [show -y - slk v.1 s.1 + lf s = lf s - slk v.1 s.1 - y by omega, show -y - slk v.1 s.1 + lf t = lf t - slk v.1 s.1 - y by omega]; exact n2
        · rintro (⟨n, _, _, e, _⟩ | ⟨n, _, e, _, n1, n2⟩)
          · omega
          · rw [show lf s - slk v.1 s.1 - y = n + lf s by omega, show lf t - slk v.1 s.1 - y = n + lf t by omega]
            exact ⟨n1, n2⟩
  · -- up first
    have ev : mv v s y = (s.1 + y - min y (slk v.2 (lf s)), s.2 + y) := mv_up' q
    have ew : mv w t y = (t.1 + y - min y (slk v.2 (lf s)), t.2 + y) := by rw [mv_up' q, ← h2]
    rw [ev, ew]
    rcases Int.lt_or_gt_of_ne z0 with r | r
    · rw [part_down r]
      show (slk v.1 (s.1 + y - min y (slk v.2 (lf s))) ≠ slk w.1 (t.1 + y - min y (slk v.2 (lf s))) ∧ min (slk v.1 (s.1 + y - min y (slk v.2 (lf s)))) (slk w.1 (t.1 + y - min y (slk v.2 (lf s)))) < -z) ↔ _
      by_cases k : y ≤ slk v.2 (lf s)
      · rw [Int.min_eq_left k, show s.1 + y - y = s.1 by omega, show t.1 + y - y = t.1 by omega]
        constructor
        · rintro ⟨n1, _⟩; exact absurd h1 n1
        · rintro (⟨n, _, e, _⟩ | ⟨n, _, _, e, _⟩)
          · omega
          · omega
      · rw [Int.min_eq_right (a := y) (by omega)]
        constructor
        · rintro ⟨n1, n2⟩
          refine .inl ⟨y - slk v.2 (lf s), by omega, by omega, r, ?_, ?_⟩
          · rw [show y - slk v.2 (lf s) + s.1 = s.1 + y - slk v.2 (lf s) by omega, show y - slk v.2 (lf s) + t.1 = t.1 + y - slk v.2 (lf s) by omega]; exact n1
          · rw [show y - slk v.2 (lf s) + s.1 = s.1 + y - slk v.2 (lf s) by omega, show y - slk v.2 (lf s) + t.1 = t.1 + y - slk v.2 (lf s) by omega]; exact n2
        · rintro (⟨n, _, e, _, n1, n2⟩ | ⟨n, _, _, e, _⟩)
          · rw [show s.1 + y - slk v.2 (lf s) = n + s.1 by omega, show t.1 + y - slk v.2 (lf s) = n + t.1 by omega]
            exact ⟨n1, n2⟩
          · omega
    · rw [part_up r]
      have l1 : lf (s.1 + y - min y (slk v.2 (lf s)), s.2 + y) = lf s - min y (slk v.2 (lf s)) := by show _ - _ - (_ + _) = s.1 - s.2 - _; omega
      have l2 : lf (t.1 + y - min y (slk v.2 (lf s)), t.2 + y) = lf t - min y (slk v.2 (lf s)) := by show _ - _ - (_ + _) = t.1 - t.2 - _; omega
      rw [l1, l2]
      have e1 : slk v.2 (lf s - min y (slk v.2 (lf s))) = slk v.2 (lf s) - min y (slk v.2 (lf s)) := slk_down v1.2 (by omega) (by omega)
      have e2 : slk w.2 (lf t - min y (slk v.2 (lf s))) = slk w.2 (lf t) - min y (slk v.2 (lf s)) := slk_down w1.2 (by omega) (by omega)
      constructor
      · rintro ⟨n1, _⟩
        exact absurd (by rw [e1, e2, h2]) n1
      · rintro (⟨n, _, _, e, _⟩ | ⟨n, _, e, _⟩)
        · omega
        · omega
end
end PD

/-! PD212: the fewest moves that part -/
namespace PD
open PySem PySem.Spec PyProof.Rows L2 Evl
def pzD (a b : Int) : D := if a = b then .none else .int (min a b + 1)
def sglI (b e : Dv) : List Int := (if slk b.1 0 = slk e.1 0 then [] else [-(min (slk b.1 0) (slk e.1 0) + 1)]) ++ (if slk b.2 0 = slk e.2 0 then [] else [min (slk b.2 0) (slk e.2 0) + 1])
def prsP (c e : Comb) (k g : Int) : Nat → List (Int × Int)
  | 0 => []
  | i + 1 => prsP c e k g i ++ (if slk c ((i : Int) + 1) = slk e ((i : Int) + 1) then [] else [(g * (k + ((i : Int) + 1)), -g * (min (slk c ((i : Int) + 1)) (slk e ((i : Int) + 1)) + 1))])
def lstD (L : List (List Int)) : List D := L.map fun r => .list (r.map PyData.int)
theorem prs_mem {c e : Comb} {k g : Int} {p : Int × Int} : ∀ N : Nat, p ∈ prsP c e k g N ↔ ∃ i : Nat, i < N ∧ slk c ((i : Int) + 1) ≠ slk e ((i : Int) + 1) ∧ p = (g * (k + ((i : Int) + 1)), -g * (min (slk c ((i : Int) + 1)) (slk e ((i : Int) + 1)) + 1))
  | 0 => ⟨(fun h => nomatch h), fun ⟨i, h, _⟩ => absurd h (Nat.not_lt_zero i)⟩
  | N + 1 => by
    unfold prsP
    rw [List.mem_append, prs_mem N]
    constructor
    · rintro (⟨i, h1, h2, h3⟩ | h)
      · exact ⟨i, by omega, h2, h3⟩
      · by_cases q : slk c ((N : Int) + 1) = slk e ((N : Int) + 1)
        · rw [if_pos q] at h; cases h
        · rw [if_neg q] at h
          exact ⟨N, by omega, q, List.mem_singleton.mp h⟩
    · rintro ⟨i, h1, h2, h3⟩
      by_cases q : i = N
      · subst q
        rw [if_neg h2, h3]
        exact .inr (List.mem_singleton.mpr rfl)
      · exact .inl ⟨i, by omega, h2, h3⟩
theorem prs_len {c e : Comb} {k g : Int} : ∀ N : Nat, (prsP c e k g N).length ≤ N
  | 0 => Nat.le_refl _
  | N + 1 => by
    unfold prsP
    have := prs_len (c := c) (e := e) (k := k) (g := g) N
    rw [List.length_append]
    split
    · simp; omega
    · simp; omega
def intD : D → Int
  | .int i => i
  | _ => 0
def rkOf : D → D
  | .list xs => rkD (xs.map intD)
  | _ => .none
theorem rkOf_ints (r : List Int) : rkOf (.list (r.map PyData.int)) = rkD r := by
  show rkD ((r.map PyData.int).map intD) = rkD r
  rw [List.map_map]
  congr 1
  exact List.map_id'' (fun _ => rfl) r
theorem best_of {α : Type} (enc : α → List Int) (lt : α → α → Prop) (h : ∀ a b, PySem.W.dataLt (rkD (enc a)) (rkD (enc b)) = true ↔ lt a b) (irr : ∀ a, ¬ lt a a) (tr : ∀ a b c, lt a b → lt b c → lt a c) (L : List α) {ys : List D} (ey : ys = L.map fun a => .list ((enc a).map PyData.int)) (x : D)
    (hx : ys[argBest (fun i j => PySem.W.dataLt (rkOf (ys.getD i .none)) (rkOf (ys.getD j .none))) (ys.length - 1)]? = some x) : ∃ a ∈ L, x = .list ((enc a).map PyData.int) ∧ ∀ b ∈ L, ¬ lt b a := by
  have ly : ys.length = L.length := by rw [ey, List.length_map]
  have at' : ∀ (i : Nat) (a : α), L[i]? = some a → rkOf (ys.getD i .none) = rkD (enc a) := fun i a e => by
    rw [List.getD_eq_getElem?_getD, ey, List.getElem?_map, e]
    exact rkOf_ints _
  have key : ∀ (i j : Nat) (a b : α), L[i]? = some a → L[j]? = some b → (PySem.W.dataLt (rkOf (ys.getD i .none)) (rkOf (ys.getD j .none)) = true ↔ lt a b) := fun i j a b e1 e2 => by
    rw [at' i a e1, at' j b e2]
    exact h a b
  obtain ⟨bt, hbt⟩ : ∃ bt : Nat → Nat → Bool, bt = fun i j => decide (i < L.length) && decide (j < L.length) && PySem.W.dataLt (rkOf (ys.getD i .none)) (rkOf (ys.getD j .none)) := ⟨_, rfl⟩
  have same : ∀ k, k < L.length → argBest (fun i j => PySem.W.dataLt (rkOf (ys.getD i .none)) (rkOf (ys.getD j .none))) k = argBest bt k := fun k => by
    induction k with
    | zero => intro _; rfl
    | succ k ih =>
      intro hk
      have hb := argBest_le bt k
      unfold argBest
      rw [ih (by omega), hbt]
      simp only [decide_eq_true (show k + 1 < L.length from hk), ← hbt, decide_eq_true (show argBest bt k < L.length by omega), Bool.true_and]
  have hx' := hx
  rw [ey, List.getElem?_map] at hx'
  obtain ⟨bi, hbi⟩ : ∃ bi, argBest (fun i j => PySem.W.dataLt (rkOf (ys.getD i .none)) (rkOf (ys.getD j .none))) (ys.length - 1) = bi := ⟨_, rfl⟩
  rw [← ey, hbi] at hx'
  cases q : L[bi]? with
  | none => rw [q] at hx'; cases hx'
  | some a =>
    rw [q] at hx'
    cases hx'
    have hl := (List.getElem?_eq_some_iff.mp q).1
    refine ⟨a, List.mem_of_getElem? q, rfl, fun b hb z => ?_⟩
    obtain ⟨j, hj⟩ := List.mem_iff_getElem?.mp hb
    have hjl := (List.getElem?_eq_some_iff.mp hj).1
    have n1 : ys.length - 1 < L.length := by omega
    have := best_least (n := L.length) bt (fun i => by
      rw [hbt]
      cases qi : L[i]? with
      | none =>
        have := List.getElem?_eq_none_iff.mp qi
        simp only [decide_eq_false (show ¬ i < L.length by omega), Bool.false_and]
      | some c =>
        cases r : PySem.W.dataLt (rkOf (ys.getD i .none)) (rkOf (ys.getD i .none)) with
        | false =>
          show (_ && PySem.W.dataLt _ _) = false
          rw [r, Bool.and_false]
        | true => exact absurd ((key i i c c qi qi).mp r) (irr c)) (fun i j k hi hj hk h1 h2 => by
      rw [hbt] at h1 h2 ⊢
      simp only [decide_eq_true hi, decide_eq_true hj, decide_eq_true hk, Bool.true_and] at h1 h2 ⊢
      obtain ⟨ci, ei⟩ : ∃ ci, L[i]? = some ci := ⟨_, List.getElem?_eq_getElem hi⟩
      obtain ⟨cj, ej⟩ : ∃ cj, L[j]? = some cj := ⟨_, List.getElem?_eq_getElem hj⟩
      obtain ⟨ck, ek⟩ : ∃ ck, L[k]? = some ck := ⟨_, List.getElem?_eq_getElem hk⟩
      exact (key i k ci ck ei ek).mpr (tr _ _ _ ((key i j ci cj ei ej).mp h1) ((key j k cj ck ej ek).mp h2))) (ys.length - 1) n1 j (by omega)
    rw [← same _ n1, hbi, hbt] at this
    simp only [decide_eq_true hjl, decide_eq_true hl, Bool.true_and] at this
    have w := (key j bi b a hj q).mpr z
    rw [this] at w
    cases w
theorem lt1_irr (a : Int) : ¬ lt1 a a := by unfold lt1; omega
theorem lt1_tr (a b c : Int) : lt1 a b → lt1 b c → lt1 a c := by unfold lt1; omega
theorem lt2_irr (a : Int × Int) : ¬ lt2 a a := by unfold lt2; omega
theorem lt2_tr (a b c : Int × Int) : lt2 a b → lt2 b c → lt2 a c := by unfold lt2; omega
/-! ### what is told -/
def PartD (v : Dv) (s : Sv) (w : Dv) (t : Sv) (d : D) : Prop :=
  (d = .none ∧ AlkS v s w t) ∨
  (∃ x, d = .list [.int x] ∧ x ≠ 0 ∧ x.natAbs ≤ 1000 ∧ rs v s x ≠ rs w t x ∧ ∀ y, y ≠ 0 → rs v s y ≠ rs w t y → ¬ lt1 y x) ∨
  (∃ a b, d = .list [.int a, .int b] ∧ a ≠ 0 ∧ b ≠ 0 ∧ a.natAbs ≤ 1000 ∧ b.natAbs ≤ 1000 ∧ (∀ y, y ≠ 0 → rs v s y = rs w t y) ∧ rs v (mv v s a) b ≠ rs w (mv w t a) b ∧ ∀ y z, y ≠ 0 → z ≠ 0 → rs v (mv v s y) z ≠ rs w (mv w t y) z → ¬ lt2 (y, z) (a, b))
theorem emod_self_le {a : Int} (h : 0 ≤ a) (N : Int) (hN : 0 ≤ N) : a % N ≤ a := by
  have e := Int.emod_add_mul_ediv a N
  have := Int.mul_nonneg hN (Int.ediv_nonneg h hN)
  omega
theorem slk_b24 {c : Comb} (ok : c.Ok) (n : Int) : slk c n < 24 := by
  have := slk_lt ok n
  have := ok.p24
  omega
section
variable {v w b e : Dv} {s t : Sv}
structure SeenAs (v : Dv) (s : Sv) (b : Dv) : Prop where
  ok : v.Ok
  okb : b.Ok
  one : ∀ n, slk b.1 n = slk v.1 (n + s.1)
  two : ∀ n, slk b.2 n = slk v.2 (n + lf s)
theorem SeenAs.of (ok : v.Ok) (okb : b.Ok) (h1 : ∀ n, caught b.1 n = caught v.1 (n + s.1)) (h2 : ∀ n, caught b.2 n = caught v.2 (n + (s.1 - s.2))) : SeenAs v s b :=
  ⟨ok, okb, slk_same okb.1 ok.1 h1, slk_same okb.2 ok.2 h2⟩
theorem SeenAs.z1 (h : SeenAs v s b) : slk b.1 0 = slk v.1 s.1 := by rw [h.one, Int.zero_add]
theorem SeenAs.z2 (h : SeenAs v s b) : slk b.2 0 = slk v.2 (lf s) := by rw [h.two, Int.zero_add]
theorem told_single (hb : SeenAs v s b) (he : SeenAs w t e) {x : Int} (hx : x ∈ sglI b e) (lo : ∀ y ∈ sglI b e, ¬ lt1 y x) : PartD v s w t (.list [.int x]) := by
  unfold sglI at hx lo
  rw [hb.z1, hb.z2, he.z1, he.z2] at hx lo
  have a1 := slk_nn hb.ok.1 s.1
  have a2 := slk_nn he.ok.1 t.1
  have b1 := slk_nn hb.ok.2 (lf s)
  have b2 := slk_nn he.ok.2 (lf t)
  have c1 := slk_b24 hb.ok.1 s.1
  have c3 := slk_b24 hb.ok.2 (lf s)
  have loU : slk v.2 (lf s) ≠ slk w.2 (lf t) → ¬ lt1 (min (slk v.2 (lf s)) (slk w.2 (lf t)) + 1) x := fun n => lo _ (by rw [if_neg n]; exact List.mem_append_right _ (List.mem_singleton.mpr rfl))
  have loD : slk v.1 s.1 ≠ slk w.1 t.1 → ¬ lt1 (-(min (slk v.1 s.1) (slk w.1 t.1) + 1)) x := fun n => lo _ (by rw [if_neg n]; exact List.mem_append_left _ (List.mem_singleton.mpr rfl))
  have least : ∀ y, y ≠ 0 → rs v s y ≠ rs w t y → ¬ lt1 y x := fun y y0 hy => by
    rcases Int.lt_or_gt_of_ne y0 with q | q
    · obtain ⟨n1, n2⟩ := (part_down q).mp hy
      have := loD n1
      unfold lt1 sz1 at *
      omega
    · obtain ⟨n1, n2⟩ := (part_up q).mp hy
      have := loU n1
      unfold lt1 sz1 at *
      omega
  rcases List.mem_append.mp hx with h | h
  · by_cases n : slk v.1 s.1 = slk w.1 t.1
    · rw [if_pos n] at h; cases h
    · rw [if_neg n] at h
      have ex := List.mem_singleton.mp h
      refine .inr (.inl ⟨x, rfl, by omega, by omega, (part_down (by omega)).mpr ⟨n, by omega⟩, least⟩)
  · by_cases n : slk v.2 (lf s) = slk w.2 (lf t)
    · rw [if_pos n] at h; cases h
    · rw [if_neg n] at h
      have ex := List.mem_singleton.mp h
      refine .inr (.inl ⟨x, rfl, by omega, by omega, (part_up (by omega)).mpr ⟨n, by omega⟩, least⟩)
theorem sgl_none (hb : SeenAs v s b) (he : SeenAs w t e) (h : sglI b e = []) : slk v.1 s.1 = slk w.1 t.1 ∧ slk v.2 (lf s) = slk w.2 (lf t) := by
  unfold sglI at h
  rw [hb.z1, hb.z2, he.z1, he.z2] at h
  constructor
  · refine Classical.byContradiction fun n => ?_
    rw [if_neg n] at h
    cases h
  · refine Classical.byContradiction fun n => ?_
    rw [if_neg n] at h
    have := List.append_eq_nil_iff.mp h
    cases this.2
theorem slk_back {c : Comb} (ok : c.Ok) {L : Int} (hd : L % c.p = 0) (n : Int) : slk c ((n - 1) % L + 1) = slk c n := by
  have e1 := Int.emod_add_mul_ediv (n - 1) L
  have e2 := Int.emod_add_mul_ediv L c.p
  rw [hd, Int.zero_add] at e2
  have := slk_shift ok ((n - 1) % L + 1) (L / c.p * ((n - 1) / L))
  rw [← Int.mul_assoc, e2] at this
  rw [← this]
  congr 1
  omega
def dblP (b e : Dv) (N M : Nat) : List (Int × Int) := prsP b.1 e.1 (slk b.2 0) 1 N ++ prsP b.2 e.2 (slk b.1 0) (-1) M
theorem dbl_back (hb : SeenAs v s b) (he : SeenAs w t e) {N M : Nat} (N1 : 0 < N) (M1 : 0 < M) (d1 : (N : Int) % b.1.p = 0) (d2 : (N : Int) % e.1.p = 0) (d3 : (M : Int) % b.2.p = 0) (d4 : (M : Int) % e.2.p = 0)
    (h1 : slk v.1 s.1 = slk w.1 t.1) (h2 : slk v.2 (lf s) = slk w.2 (lf t)) {y z : Int} (y0 : y ≠ 0) (z0 : z ≠ 0) (hp : rs v (mv v s y) z ≠ rs w (mv w t y) z) : ∃ p ∈ dblP b e N M, p = (y, z) ∨ lt2 p (y, z) := by
  have a1 := slk_nn hb.ok.1 s.1
  have b1 := slk_nn hb.ok.2 (lf s)
  rcases (two_part hb.ok he.ok h1 h2 y0 z0).mp hp with ⟨n, n1, ey, z1, ne, lt⟩ | ⟨n, n1, ey, z1, ne, lt⟩
  · rw [← hb.one, ← he.one] at ne lt
    have r0 := Int.emod_nonneg (n - 1) (show (N : Int) ≠ 0 by omega)
    have r1 := Int.emod_lt_of_pos (n - 1) (show (0 : Int) < N by omega)
    have r2 := emod_self_le (show 0 ≤ n - 1 by omega) (N : Int) (by omega)
    have s1 := slk_back hb.okb.1 d1 n
    have s2 := slk_back he.okb.1 d2 n
    refine ⟨_, List.mem_append_left _ ((prs_mem N).mpr ⟨((n - 1) % (N : Int)).toNat, by omega, ?_, rfl⟩), ?_⟩
    · rw [show ((((n - 1) % (N : Int)).toNat : Nat) : Int) = (n - 1) % (N : Int) by omega, s1, s2]; exact ne
    · rw [show ((((n - 1) % (N : Int)).toNat : Nat) : Int) = (n - 1) % (N : Int) by omega, s1, s2, hb.z2]
      have c1 := slk_nn hb.okb.1 n
      have c2 := slk_nn he.okb.1 n
      obtain ⟨k, hk⟩ : ∃ k, (n - 1) % (N : Int) = k := ⟨_, rfl⟩
      obtain ⟨m, hm⟩ : ∃ m, min (slk b.1 n) (slk e.1 n) = m := ⟨_, rfl⟩
      rw [hk] at r0 r2 ⊢
      rw [hm] at lt ⊢
      have m0 : 0 ≤ m := by omega
      rw [Int.one_mul, show -1 * (m + 1) = -(m + 1) by omega]
      by_cases q : k = n - 1 ∧ z = -(m + 1)
      · exact .inl (Prod.ext (by show slk v.2 (lf s) + (k + 1) = y; omega) q.2.symm)
      · refine .inr ?_
        unfold lt2 sz1
        show _ < _ ∨ _
        simp only
        omega
  · rw [← hb.two, ← he.two] at ne lt
    have r0 := Int.emod_nonneg (n - 1) (show (M : Int) ≠ 0 by omega)
    have r1 := Int.emod_lt_of_pos (n - 1) (show (0 : Int) < M by omega)
    have r2 := emod_self_le (show 0 ≤ n - 1 by omega) (M : Int) (by omega)
    have s1 := slk_back hb.okb.2 d3 n
    have s2 := slk_back he.okb.2 d4 n
    refine ⟨_, List.mem_append_right _ ((prs_mem M).mpr ⟨((n - 1) % (M : Int)).toNat, by omega, ?_, rfl⟩), ?_⟩
    · rw [show ((((n - 1) % (M : Int)).toNat : Nat) : Int) = (n - 1) % (M : Int) by omega, s1, s2]; exact ne
    · rw [show ((((n - 1) % (M : Int)).toNat : Nat) : Int) = (n - 1) % (M : Int) by omega, s1, s2, hb.z1]
      have c1 := slk_nn hb.okb.2 n
      have c2 := slk_nn he.okb.2 n
      obtain ⟨k, hk⟩ : ∃ k, (n - 1) % (M : Int) = k := ⟨_, rfl⟩
      obtain ⟨m, hm⟩ : ∃ m, min (slk b.2 n) (slk e.2 n) = m := ⟨_, rfl⟩
      rw [hk] at r0 r2 ⊢
      rw [hm] at lt ⊢
      have m0 : 0 ≤ m := by omega
      rw [show -1 * (slk v.1 s.1 + (k + 1)) = -(slk v.1 s.1 + (k + 1)) by omega, show - -1 * (m + 1) = m + 1 by omega]
      by_cases q : k = n - 1 ∧ z = m + 1
      · exact .inl (Prod.ext (by show -(slk v.1 s.1 + (k + 1)) = y; omega) q.2.symm)
      · refine .inr ?_
        unfold lt2 sz1
        show _ < _ ∨ _
        simp only
        omega
theorem dbl_in (hb : SeenAs v s b) (he : SeenAs w t e) {N M : Nat} (N6 : N ≤ 600) (M6 : M ≤ 600)
    (h1 : slk v.1 s.1 = slk w.1 t.1) (h2 : slk v.2 (lf s) = slk w.2 (lf t)) {p : Int × Int} (hp : p ∈ dblP b e N M) : p.1 ≠ 0 ∧ p.2 ≠ 0 ∧ p.1.natAbs ≤ 1000 ∧ p.2.natAbs ≤ 1000 ∧ rs v (mv v s p.1) p.2 ≠ rs w (mv w t p.1) p.2 := by
  have a1 := slk_nn hb.ok.1 s.1
  have b1 := slk_nn hb.ok.2 (lf s)
  have a2 := slk_b24 hb.ok.1 s.1
  have b2 := slk_b24 hb.ok.2 (lf s)
  rcases List.mem_append.mp hp with h | h
  · obtain ⟨i, hi, ne, ep⟩ := (prs_mem N).mp h
    have c1 := slk_nn hb.okb.1 ((i : Int) + 1)
    have c2 := slk_nn he.okb.1 ((i : Int) + 1)
    have c3 := slk_b24 hb.okb.1 ((i : Int) + 1)
    rw [hb.z2] at ep
    have e1 : p.1 = slk v.2 (lf s) + ((i : Int) + 1) := by rw [ep]; show 1 * _ = _; omega
    have e2 : p.2 = -(min (slk b.1 ((i : Int) + 1)) (slk e.1 ((i : Int) + 1)) + 1) := by rw [ep]; show -1 * _ = _; omega
    refine ⟨by omega, by omega, by omega, by omega, (two_part hb.ok he.ok h1 h2 (by omega) (by omega)).mpr (.inl ⟨(i : Int) + 1, by omega, e1, by omega, ?_, ?_⟩)⟩
    · rw [← hb.one, ← he.one]; exact ne
    · rw [← hb.one, ← he.one]; omega
  · obtain ⟨i, hi, ne, ep⟩ := (prs_mem M).mp h
    have c1 := slk_nn hb.okb.2 ((i : Int) + 1)
    have c2 := slk_nn he.okb.2 ((i : Int) + 1)
    have c3 := slk_b24 hb.okb.2 ((i : Int) + 1)
    rw [hb.z1] at ep
    have e1 : p.1 = -(slk v.1 s.1 + ((i : Int) + 1)) := by rw [ep]; show -1 * _ = _; omega
    have e2 : p.2 = min (slk b.2 ((i : Int) + 1)) (slk e.2 ((i : Int) + 1)) + 1 := by rw [ep]; show - -1 * _ = _; omega
    refine ⟨by omega, by omega, by omega, by omega, (two_part hb.ok he.ok h1 h2 (by omega) (by omega)).mpr (.inr ⟨(i : Int) + 1, by omega, e1, by omega, ?_, ?_⟩)⟩
    · rw [← hb.two, ← he.two]; exact ne
    · rw [← hb.two, ← he.two]; omega
theorem told_double (hb : SeenAs v s b) (he : SeenAs w t e) {N M : Nat} (N6 : N ≤ 600) (M6 : M ≤ 600) (N1 : 0 < N) (M1 : 0 < M) (d1 : (N : Int) % b.1.p = 0) (d2 : (N : Int) % e.1.p = 0) (d3 : (M : Int) % b.2.p = 0) (d4 : (M : Int) % e.2.p = 0)
    (hs : sglI b e = []) {p : Int × Int} (hp : p ∈ dblP b e N M) (lo : ∀ q ∈ dblP b e N M, ¬ lt2 q p) : PartD v s w t (.list [.int p.1, .int p.2]) := by
  obtain ⟨h1, h2⟩ := sgl_none hb he hs
  obtain ⟨p1, p2, p3, p4, p5⟩ := dbl_in hb he N6 M6 h1 h2 hp
  refine .inr (.inr ⟨p.1, p.2, rfl, p1, p2, p3, p4, (no_single hb.ok he.ok).mpr ⟨h1, h2⟩, p5, fun y z y0 z0 hyz less => ?_⟩)
  obtain ⟨q, hq, hq2⟩ := dbl_back hb he N1 M1 d1 d2 d3 d4 h1 h2 y0 z0 hyz
  rcases hq2 with h | h
  · exact lo q hq (by rw [h]; exact less)
  · exact lo q hq (lt2_tr _ _ _ h less)
theorem told_none (hb : SeenAs v s b) (he : SeenAs w t e) {N M : Nat} (N1 : 0 < N) (M1 : 0 < M) (d1 : (N : Int) % b.1.p = 0) (d2 : (N : Int) % e.1.p = 0) (d3 : (M : Int) % b.2.p = 0) (d4 : (M : Int) % e.2.p = 0)
    (hs : sglI b e = []) (hd : dblP b e N M = []) : PartD v s w t .none := by
  obtain ⟨hd1, hd2⟩ := List.append_eq_nil_iff.mp hd
  refine .inl ⟨rfl, fun n => ?_, fun n => ?_⟩
  · rw [← slk_zero hb.ok.1, ← slk_zero he.ok.1, ← hb.one, ← he.one]
    have r0 := Int.emod_nonneg (n - 1) (show (N : Int) ≠ 0 by omega)
    have r1 := Int.emod_lt_of_pos (n - 1) (show (0 : Int) < N by omega)
    have s1 := slk_back hb.okb.1 d1 n
    have s2 := slk_back he.okb.1 d2 n
    have : slk b.1 n = slk e.1 n := by
      refine Classical.byContradiction fun ne => ?_
      have := (prs_mem (c := b.1) (e := e.1) (k := slk b.2 0) (g := 1) N).mpr ⟨((n - 1) % (N : Int)).toNat, by omega, by rw [show ((((n - 1) % (N : Int)).toNat : Nat) : Int) = (n - 1) % (N : Int) by omega, s1, s2]; exact ne, rfl⟩
      rw [hd1] at this
      cases this
    rw [this]
  · show caught v.2 (n + lf s) = caught w.2 (n + lf t)
    rw [← slk_zero hb.ok.2, ← slk_zero he.ok.2, ← hb.two, ← he.two]
    have r0 := Int.emod_nonneg (n - 1) (show (M : Int) ≠ 0 by omega)
    have r1 := Int.emod_lt_of_pos (n - 1) (show (0 : Int) < M by omega)
    have s1 := slk_back hb.okb.2 d3 n
    have s2 := slk_back he.okb.2 d4 n
    have : slk b.2 n = slk e.2 n := by
      refine Classical.byContradiction fun ne => ?_
      have := (prs_mem (c := b.2) (e := e.2) (k := slk b.1 0) (g := -1) M).mpr ⟨((n - 1) % (M : Int)).toNat, by omega, by rw [show ((((n - 1) % (M : Int)).toNat : Nat) : Int) = (n - 1) % (M : Int) by omega, s1, s2]; exact ne, rfl⟩
      rw [hd2] at this
      cases this
    rw [this]
end
end PD

/-! PD213: for the defs of moves that part -/
namespace PD
open PySem PySem.Spec PyProof.Rows L2 Evl
theorem lcm_600 {b e : Comb} (ob : b.Ok) (oe : e.Ok) : Nat.lcm b.p.natAbs e.p.natAbs ≤ 600 := by
  have p1 := ob.p1
  have q1 := oe.p1
  have p2 := ob.p24
  have q2 := oe.p24
  have h0 : 0 < b.p.natAbs * e.p.natAbs := Nat.mul_pos (by omega) (by omega)
  have h := Nat.le_of_dvd h0 (Nat.lcm_dvd_mul b.p.natAbs e.p.natAbs)
  have h2 : b.p.natAbs * e.p.natAbs ≤ 24 * 24 := Nat.mul_le_mul (by omega) (by omega)
  omega
theorem lcm_pos {b e : Comb} (ob : b.Ok) (oe : e.Ok) : 0 < Nat.lcm b.p.natAbs e.p.natAbs := by
  have p1 := ob.p1
  have q1 := oe.p1
  exact Nat.lcm_pos (by omega) (by omega)
theorem lcm_mod {b e : Comb} (ob : b.Ok) (oe : e.Ok) : ((Nat.lcm b.p.natAbs e.p.natAbs : Nat) : Int) % b.p = 0 ∧ ((Nat.lcm b.p.natAbs e.p.natAbs : Nat) : Int) % e.p = 0 := by
  have p1 := ob.p1
  have q1 := oe.p1
  obtain ⟨m, hm⟩ := Nat.dvd_lcm_left b.p.natAbs e.p.natAbs
  obtain ⟨n, hn⟩ := Nat.dvd_lcm_right b.p.natAbs e.p.natAbs
  constructor
  · rw [hm, Int.natCast_mul, show ((b.p.natAbs : Nat) : Int) = b.p by omega]
    exact Int.mul_emod_right _ _
  · rw [hn, Int.natCast_mul, show ((e.p.natAbs : Nat) : Int) = e.p by omega]
    exact Int.mul_emod_right _ _
theorem alk_slk {v w : Dv} {s t : Sv} (ok : v.Ok) (ow : w.Ok) (h : AlkS v s w t) : (∀ n, slk v.1 (n + s.1) = slk w.1 (n + t.1)) ∧ ∀ n, slk v.2 (n + lf s) = slk w.2 (n + lf t) := by
  constructor
  · intro n
    have := slk_same (d := t.1 - s.1) ok.1 ow.1 (fun m => by
      have := h.1 (m - s.1)
      rw [show m - s.1 + s.1 = m by omega] at this
      rw [this]
      congr 1
      omega) (n + s.1)
    rw [this]
    congr 1
    omega
  · intro n
    have := slk_same (d := lf t - lf s) ok.2 ow.2 (fun m => by
      have := h.2 (m - lf s)
      rw [show m - lf s + (s.1 - s.2) = m by show m - (s.1 - s.2) + _ = m; omega] at this
      rw [this]
      congr 1
      show m - (s.1 - s.2) + (t.1 - t.2) = m + (t.1 - t.2 - (s.1 - s.2))
      omega) (n + lf s)
    rw [this]
    congr 1
    omega
theorem alk_rs {v w : Dv} {s t : Sv} (ok : v.Ok) (ow : w.Ok) (h : AlkS v s w t) {m : Int} (m0 : m ≠ 0) : rs v s m = rs w t m := by
  obtain ⟨h1, h2⟩ := alk_slk ok ow h
  have a1 := h1 0
  have a2 := h2 0
  rw [Int.zero_add, Int.zero_add] at a1 a2
  exact (no_single ok ow).mpr ⟨a1, a2⟩ m m0
theorem alk_move {v w : Dv} {s t : Sv} (ok : v.Ok) (ow : w.Ok) (h : AlkS v s w t) {m : Int} (m0 : m ≠ 0) : AlkS v (mv v s m) w (mv w t m) := by
  have r := alk_rs ok ow h m0
  unfold rs at r
  have e1 := mv_hand v s m
  have e2 := mv_hand w t m
  refine ⟨fun n => ?_, fun n => ?_⟩
  · have := h.1 (n + ((mv v s m).1 - s.1))
    rw [show n + ((mv v s m).1 - s.1) + s.1 = n + (mv v s m).1 by omega, r, show n + ((mv w t m).1 - t.1) + t.1 = n + (mv w t m).1 by omega] at this
    exact this
  · have := h.2 (n + ((mv v s m).1 - s.1) - m)
    rw [show n + ((mv v s m).1 - s.1) - m + (s.1 - s.2) = n + ((mv v s m).1 - (mv v s m).2) by omega, r, show n + ((mv w t m).1 - t.1) - m + (t.1 - t.2) = n + ((mv w t m).1 - (mv w t m).2) by omega] at this
    exact this
theorem part_not_alike {v w : Dv} {s t : Sv} (ok : v.Ok) (ow : w.Ok) {d : D} (h : PartD v s w t d) : d = .none ↔ AlkS v s w t := by
  rcases h with ⟨e, a⟩ | ⟨x, e, x0, _, r, _⟩ | ⟨a, b, e, a0, b0, _, _, _, r, _⟩
  · exact ⟨fun _ => a, fun _ => e⟩
  · exact ⟨(fun z => by rw [e] at z; cases z), fun z => absurd (alk_rs ok ow z x0) r⟩
  · exact ⟨(fun z => by rw [e] at z; cases z), fun z => absurd (alk_rs ok ow (alk_move ok ow z a0) b0) r⟩
end PD

/-! PD214: for the least of lists of moves -/
namespace PD
open PySem PySem.Spec PyProof.Rows L2 Evl
theorem lst_F (L : List (List Int)) (h : ∀ r ∈ L, r.length ≤ 10) : ∀ y ∈ lstD L, det (fun r : List Int => [.list (r.map PyData.int)]) (fun r => r.length ≤ 10) (fun r => rkD r) [y] fun d => d = rkOf y := fun y hy => by
  obtain ⟨r, hr, rfl⟩ := List.mem_map.mp hy
  exact ⟨r, rfl, h r hr, (rkOf_ints r).symm⟩
theorem lst_al (L : List (List Int)) : ∀ y ∈ lstD L, ∀ z ∈ lstD L, PySem.W.alike (rkOf y) (rkOf z) = true ∧ rkOf y ≠ .none ∧ (rkOf y).depth ≤ 20 := fun y hy z hz => by
  obtain ⟨r, hr, rfl⟩ := List.mem_map.mp hy
  obtain ⟨q, hq, rfl⟩ := List.mem_map.mp hz
  rw [rkOf_ints, rkOf_ints]
  exact ⟨rk_alike r q, (fun z => by unfold rkD at z; cases z), rk_depth r⟩
theorem lst_ey {α : Type} (enc : α → List Int) (L : List α) : lstD (L.map enc) = L.map fun a => .list ((enc a).map PyData.int) := by
  unfold lstD
  rw [List.map_map]
  rfl
end PD

/-! PD215: two objects made at once; lists that do not part -/
namespace PD
open PySem PySem.Spec PyProof.Rows L2 Evl
section
variable {c : Cn} {K : PySem.W.Frag} {ds : DS} {pl : List D} {ta tb : TE} {D' : Ends} {G0 : Hp}
end
def rsL (v : Dv) (s : Sv) (ms : List Int) : List Int := (notesL v s ms).map (·.2)
section
variable {v w : Dv} {s t : Sv} {ms : List Int}
theorem part_list (h : PartD v s w t (.list (ms.map PyData.int))) :
    (∃ x, ms = [x] ∧ x ≠ 0 ∧ x.natAbs ≤ 1000 ∧ rs v s x ≠ rs w t x ∧ ∀ y, y ≠ 0 → rs v s y ≠ rs w t y → ¬ lt1 y x) ∨
    (∃ a b, ms = [a, b] ∧ a ≠ 0 ∧ b ≠ 0 ∧ a.natAbs ≤ 1000 ∧ b.natAbs ≤ 1000 ∧ (∀ y, y ≠ 0 → rs v s y = rs w t y) ∧ rs v (mv v s a) b ≠ rs w (mv w t a) b ∧ ∀ y z, y ≠ 0 → z ≠ 0 → rs v (mv v s y) z ≠ rs w (mv w t y) z → ¬ lt2 (y, z) (a, b)) := by
  rcases h with ⟨e, _⟩ | ⟨x, e, q⟩ | ⟨a, b, e, q⟩
  · cases e
  · refine .inl ⟨x, ?_, q⟩
    have e' := PyData.list.inj e
    match ms, e' with
    | [m], e' => cases e'; rfl
  · refine .inr ⟨a, b, ?_, q⟩
    have e' := PyData.list.inj e
    match ms, e' with
    | [m, n], e' => cases e'; rfl
theorem part_looks (h : PartD v s w t (.list (ms.map PyData.int))) : (∀ j, j < ms.length → rsL v s (ms.take j) = rsL w t (ms.take j)) ∧ rsL v s ms ≠ rsL w t ms ∧ (rsL v s ms).dropLast = (rsL w t ms).dropLast ∧ (∀ m ∈ ms, m ≠ 0 ∧ m.natAbs ≤ 1000) ∧ 1 ≤ ms.length ∧ ms.length ≤ 2 := by
  rcases part_list h with ⟨x, rfl, x0, xb, ne, _⟩ | ⟨a, b, rfl, a0, b0, ab, bb, no, ne, _⟩
  · refine ⟨fun j hj => ?_, fun e => ?_, rfl, fun m hm => by rw [List.mem_singleton.mp hm]; exact ⟨x0, xb⟩, by show 1 ≤ 1; decide, by show 1 ≤ 2; decide⟩
    · have : j = 0 := by have : ([x] : List Int).length = 1 := rfl; omega
      subst this
      rfl
    · have e' : [rs v s x] = [rs w t x] := e
      exact ne (List.cons.inj e').1
  · have ea := no a a0
    refine ⟨fun j hj => ?_, fun e => ?_, ?_, fun m hm => ?_, by show 1 ≤ 2; decide, by show 2 ≤ 2; decide⟩
    · have hl : ([a, b] : List Int).length = 2 := rfl
      match j, hj with
      | 0, _ => rfl
      | 1, _ =>
        show [rs v s a] = [rs w t a]
        rw [ea]
    · have e' : [rs v s a, rs v (mv v s a) b] = [rs w t a, rs w (mv w t a) b] := e
      exact ne (List.cons.inj (List.cons.inj e').2).1
    · show [rs v s a] = [rs w t a]
      rw [ea]
    · rcases List.mem_cons.mp hm with e | hm
      · rw [e]; exact ⟨a0, ab⟩
      · rw [List.mem_singleton.mp hm]; exact ⟨b0, bb⟩
theorem part_sum (h : PartD v s w t (.list (ms.map PyData.int))) : 1 ≤ (ms.map sz1).sum ∧ (ms.map sz1).sum ≤ 2000 := by
  rcases part_list h with ⟨x, rfl, x0, xb, _⟩ | ⟨a, b, rfl, a0, b0, ab, bb, _⟩
  · show 1 ≤ sz1 x + 0 ∧ sz1 x + 0 ≤ 2000
    unfold sz1
    omega
  · show 1 ≤ sz1 a + (sz1 b + 0) ∧ sz1 a + (sz1 b + 0) ≤ 2000
    unfold sz1
    omega
end
end PD

/-! PD216: a comb with one tooth more or less; what is told of parting, taken apart -/
namespace PD
open PySem PySem.Spec PyProof.Rows L2 Evl
theorem part_cases {v w : Dv} {s t : Sv} {d : D} (h : PartD v s w t d) : (d = .none ∧ AlkS v s w t) ∨ ∃ ms : List Int, d = .list (ms.map PyData.int) ∧ PartD v s w t (.list (ms.map PyData.int)) := by
  rcases h with h | ⟨x, e, q⟩ | ⟨a, b, e, q⟩
  · exact .inl h
  · exact .inr ⟨[x], e, .inr (.inl ⟨x, rfl, q⟩)⟩
  · exact .inr ⟨[a, b], e, .inr (.inr ⟨a, b, rfl, q⟩)⟩
def rows4 (size part : Int) : List (List Int) := [[size], [0 - size], [part, 0 - size + part], [0 - part, size - part]]
end PD

/-! PD217: == of states -/
namespace PD
open PySem PySem.Spec PyProof.Rows L2 Evl
theorem ints_inj : ∀ {a b : List Int}, a.map PyData.int = b.map PyData.int → a = b
  | [], [], _ => rfl
  | [], _ :: _, h => by cases h
  | _ :: _, [], h => by cases h
  | x :: a, y :: b, h => by
    rw [List.map_cons, List.map_cons] at h
    injection h with h1 h2
    injection h1 with h3
    rw [h3, ints_inj h2]
end PD

/-! PD218: lists that part (mathematics), told once -/
namespace PD
open PySem PySem.Spec PyProof.Rows L2 Evl
def prtN (v w : Dv) : Sv → Sv → List Int → Nat
  | _, _, [] => 0
  | s, t, m :: r => if rs v s m = rs w t m then (if prtN v w (mv v s m) (mv w t m) r = 0 then 0 else prtN v w (mv v s m) (mv w t m) r + 1) else 1
theorem prt_1 {v w : Dv} {s t : Sv} (x : Int) : prtN v w s t [x] = if rs v s x = rs w t x then 0 else 1 := by
  unfold prtN prtN
  split <;> simp
theorem prt_2 {v w : Dv} {s t : Sv} (x y : Int) : prtN v w s t [x, y] = if rs v s x = rs w t x then (if rs v (mv v s x) y = rs w (mv w t x) y then 0 else 2) else 1 := by
  unfold prtN
  rw [prt_1]
  split
  · split <;> simp
  · rfl
theorem rs_plc {v : Dv} (ok : v.Ok) {s t : Sv} (h : plc v s = plc v t) (m : Int) : rs v t m = rs v s m := by
  have := mv_shift ok h m
  unfold rs
  rw [this]
  show (mv v s m).1 + (t.1 - s.1) - t.1 = _
  omega
theorem part_symm {v w : Dv} {s t : Sv} {d : D} (h : PartD v s w t d) : PartD w t v s d := by
  rcases h with ⟨e, a⟩ | ⟨x, e, x0, xb, r, lo⟩ | ⟨a, b, e, a0, b0, ab, bb, no, r, lo⟩
  · exact .inl ⟨e, fun n => (a.1 n).symm, fun n => (a.2 n).symm⟩
  · exact .inr (.inl ⟨x, e, x0, xb, Ne.symm r, fun y y0 hy => lo y y0 (Ne.symm hy)⟩)
  · exact .inr (.inr ⟨a, b, e, a0, b0, ab, bb, fun y y0 => (no y y0).symm, Ne.symm r, fun y z y0 z0 hy => lo y z y0 z0 (Ne.symm hy)⟩)
theorem lt1_tot (x y : Int) : x = y ∨ lt1 x y ∨ lt1 y x := by unfold lt1; omega
theorem lt2_tot (x y : Int × Int) : x = y ∨ lt2 x y ∨ lt2 y x := by
  by_cases h : x.1 = y.1 ∧ x.2 = y.2
  · exact .inl (Prod.ext h.1 h.2)
  · refine .inr ?_
    unfold lt2
    omega
theorem part_uniq {v w : Dv} {s t : Sv} {d e : D} (ok : v.Ok) (ow : w.Ok) (h : PartD v s w t d) (g : PartD v s w t e) : d = e := by
  have hn := part_not_alike ok ow h
  have gn := part_not_alike ok ow g
  rcases h with ⟨e1, a⟩ | ⟨x, e1, x0, xb, r, lo⟩ | ⟨a, b, e1, a0, b0, ab, bb, no, r, lo⟩
  · rw [e1]; exact (gn.mpr a).symm
  · rcases g with ⟨e2, a⟩ | ⟨x', e2, x0', xb', r', lo'⟩ | ⟨a, b, e2, a0, b0, ab, bb, no, r', lo'⟩
    · exact absurd (hn.mpr a) (by rw [e1]; exact fun z => by cases z)
    · rcases lt1_tot x x' with z | z | z
      · rw [e1, e2, z]
      · exact absurd z (lo' x x0 r)
      · exact absurd z (lo x' x0' r')
    · exact absurd (no x x0) r
  · rcases g with ⟨e2, a⟩ | ⟨x', e2, x0', xb', r', lo'⟩ | ⟨a', b', e2, a0', b0', ab', bb', no', r', lo'⟩
    · exact absurd (hn.mpr a) (by rw [e1]; exact fun z => by cases z)
    · exact absurd (no x' x0') r'
    · rcases lt2_tot (a, b) (a', b') with z | z | z
      · rw [e1, e2]; cases z; rfl
      · exact absurd z (lo' a b a0 b0 r)
      · exact absurd z (lo a' b' a0' b0' r')
theorem part_prt {v w : Dv} {s t : Sv} {ms : List Int} (h : PartD v s w t (.list (ms.map PyData.int))) : prtN v w s t ms = ms.length := by
  rcases part_list h with ⟨x, rfl, x0, _, r, _⟩ | ⟨a, b, rfl, a0, b0, _, _, no, r, _⟩
  · rw [prt_1, if_neg r]; rfl
  · rw [prt_2, if_pos (no a a0), if_neg r]; rfl
theorem row_parts {v w : Dv} {s t : Sv} {ms row : List Int} (h : PartD v s w t (.list (ms.map PyData.int))) (nz : ∀ m ∈ row, m ≠ 0) (hl : row.length = ms.length) (hp : prtN v w s t row ≠ 0) : PySem.W.dataLt (rkD row) (rkD ms) = false := by
  rcases part_list h with ⟨x, rfl, x0, _, r, lo⟩ | ⟨a, b, rfl, a0, b0, _, _, no, r, lo⟩
  · match row, hl with
    | [y], _ =>
      rw [prt_1] at hp
      cases q : PySem.W.dataLt (rkD [y]) (rkD [x]) with
      | false => rfl
      | true =>
        refine absurd ((rk_1 y x).mp q) (lo y (nz y (List.mem_singleton.mpr rfl)) fun e => ?_)
        rw [if_pos e] at hp
        exact hp rfl
  · match row, hl with
    | [y, z], _ =>
      have y0 := nz y (List.mem_cons_self ..)
      have z0 := nz z (List.mem_cons_of_mem _ (List.mem_singleton.mpr rfl))
      rw [prt_2, if_pos (no y y0)] at hp
      cases q : PySem.W.dataLt (rkD [y, z]) (rkD [a, b]) with
      | false => rfl
      | true =>
        refine absurd ((rk_2 y z a b).mp q) (lo y z y0 z0 fun e => ?_)
        rw [if_pos e] at hp
        exact hp rfl
theorem row_single {v w : Dv} {s t : Sv} {ms : List Int} {x : Int} (h : PartD v s w t (.list (ms.map PyData.int))) (hl : ms.length = 2) (x0 : x ≠ 0) : prtN v w s t [x] = 0 := by
  rcases part_list h with ⟨y, rfl, _⟩ | ⟨a, b, rfl, a0, b0, _, _, no, r, lo⟩
  · cases hl
  · rw [prt_1, if_pos (no x x0)]
end PD

/-! PD219: < of lists of numbers -/
namespace PD
open PySem PySem.Spec PyProof.Rows L2 Evl
def rLtD (K : PySem.W.Frag) : R2 := fun x y H Q => ∃ d e, Dp K H x d ∧ Dp K H y e ∧ PySem.W.alike d e = true ∧ d ≠ .none ∧ d.depth ≤ 20 ∧ Q (.bl (PySem.W.dataLt d e)) H
def rLtU (K : PySem.W.Frag) : R2 := fun x y H Q => rI0 (fun i j => .bl (decide (i < j))) x y H Q ∨ rLtD K x y H Q
section
variable {X : Cx}
theorem op_ltD (hu : X.A.units + 64 < cLine) : OpR X (compareOp .Lt) (rLtD X.K) := by
  intro pins s σ H x y v u Q I rx ry h
  obtain ⟨d, e, hd, he, al, nn, dp, q⟩ := h
  obtain ⟨as, r1⟩ := Dp.reads I d x v hd rx
  obtain ⟨bs, r2⟩ := Dp.reads I e y u he ry
  exact PySem.W.rcLt_alike d e X.A s v u as bs r1 r2 al nn (by
    have : min d.depth e.depth ≤ 20 := Nat.le_trans (Nat.min_le_left _ _) dp
    omega) _ _ _ _ ⟨.bl _, H, I, rfl, q⟩
theorem op_ltU (hu : X.A.units + 64 < cLine) : OpR X (compareOp .Lt) (rLtU X.K) := op_lt.or (op_ltD hu)
end
theorem lt_nums (r m : List Int) : PySem.W.alike (.list (r.map PyData.int)) (.list (m.map PyData.int)) = true := by
  have := rk_alike r m
  unfold rkD at this
  simp only [PySem.W.alike, PySem.W.alikeAll, Bool.and_true, Bool.true_and] at this
  exact this
section
variable {c : Cn} {K : PySem.W.Frag} {ds : DS} {Φ : W → List D → Prop}
theorem os_ltUI {i j : Int} {p2 : List D} (h : Φ (.d (.bool (decide (i < j)))) p2) : OpS c (rLtU K) ds (.int i) (.int j) p2 Φ := fun G σ H v u hs hv hu Q q => .inl (os_lt h G σ H v u hs hv hu Q q)
theorem os_ltUL {r m : List Int} {p2 : List D} (h : Φ (.d (.bool (PySem.W.dataLt (.list (r.map PyData.int)) (.list (m.map PyData.int))))) p2) : OpS c (rLtU K) ds (.list (r.map PyData.int)) (.list (m.map PyData.int)) p2 Φ := fun G σ H v u hs hv hu Q q =>
  .inr ⟨_, _, R.dp _ _ (hv.h hs.sub), R.dp _ _ (hu.h hs.sub), lt_nums r m, (fun z => by cases z), by have := depth_ints r; simp only [PyData.depth]; omega, q _ G H (.d _) p2 hs (Ex.refl _) (R.bl _) h⟩
end
theorem lex_more : ∀ (r m : List Int) (l k : List (Int ⊕ List Nat)), PyProof.Rows.lexLt itemOrd (PySem.W.keyToksAll (r.map PyData.int)) (PySem.W.keyToksAll (m.map PyData.int)) = true → PyProof.Rows.lexLt itemOrd (PySem.W.keyToksAll (r.map PyData.int) ++ l) (PySem.W.keyToksAll (m.map PyData.int) ++ k) = true
  | [], [], l, k, h => by
    simp only [List.map_nil, PySem.W.keyToksAll] at h
    erw [lex_int] at h
    have e3 : PyProof.Rows.lexLt itemOrd [] [] = false := by rw [PyProof.Rows.lexLt]
    rw [e3] at h
    simp at h
  | [], y :: m, l, k, _ => by
    simp only [List.map_nil, List.map_cons, PySem.W.keyToksAll, List.cons_append, List.nil_append]
    erw [lex_int]
    simp
  | x :: r, [], l, k, h => by
    simp only [List.map_nil, List.map_cons, PySem.W.keyToksAll, PySem.W.keyToks, List.cons_append, List.nil_append] at h
    erw [lex_int] at h
    simp at h
  | x :: r, y :: m, l, k, h => by
    simp only [List.map_cons, PySem.W.keyToksAll, PySem.W.keyToks, List.cons_append, List.nil_append] at h ⊢
    erw [lex_int, lex_int] at h
    erw [lex_int, lex_int]
    simp only [Int.lt_irrefl, decide_true, decide_false, Bool.true_and, Bool.false_or, Bool.or_eq_true, Bool.and_eq_true] at h ⊢
    rcases h with h | ⟨h1, h2⟩
    · exact .inl h
    · exact .inr ⟨h1, lex_more r m l k h2⟩
theorem lt_same (r m : List Int) (h : (r.map sz1).sum = (m.map sz1).sum) : PySem.W.dataLt (.list (r.map PyData.int)) (.list (m.map PyData.int)) = true → PySem.W.dataLt (rkD r) (rkD m) = true := by
  intro q
  unfold rkD PySem.W.dataLt at *
  simp only [PySem.W.keyToks, PySem.W.keyToksAll, List.cons_append, List.nil_append] at q ⊢
  have e : (r.map fun m => if m < 0 then -m else m).sum = (m.map fun m => if m < 0 then -m else m).sum := h
  rw [e]
  repeat erw [lex_int]
  simp only [Int.lt_irrefl, decide_true, decide_false, Bool.true_and, Bool.false_or]
  exact lex_more r m _ _ q
theorem lt_less (r m : List Int) (h : (r.map sz1).sum < (m.map sz1).sum) : PySem.W.dataLt (rkD r) (rkD m) = true := by
  unfold rkD PySem.W.dataLt
  simp only [PySem.W.keyToks, PySem.W.keyToksAll, List.cons_append, List.nil_append]
  have e : (r.map fun m => if m < 0 then -m else m).sum < (m.map fun m => if m < 0 then -m else m).sum := h
  repeat erw [lex_int]
  rw [decide_eq_true e]
  simp
end PD

/-! PD220: all lists of one or two moves of a sum -/
namespace PD
open PySem PySem.Spec PyProof.Rows L2 Evl
def lists2 (size : Int) : Nat → List (List Int)
  | 0 => []
  | i + 1 => lists2 size i ++ [[(i : Int) + 1, size - ((i : Int) + 1)], [(i : Int) + 1, (i : Int) + 1 - size], [0 - ((i : Int) + 1), size - ((i : Int) + 1)], [0 - ((i : Int) + 1), (i : Int) + 1 - size]]
def listsL (many size : Nat) : List (List Int) := if many = 1 then [[0 - (size : Int)], [(size : Int)]] else lists2 size (size - 1)
theorem lists2_in {size : Int} {r : List Int} : ∀ N : Nat, (N : Int) < size → r ∈ lists2 size N → r.length = 2 ∧ (∀ m ∈ r, m ≠ 0) ∧ (r.map sz1).sum = size
  | 0, _, h => by cases h
  | N + 1, hN, h => by
    unfold lists2 at h
    rcases List.mem_append.mp h with h | h
    · exact lists2_in N (by omega) h
    · simp only [List.mem_cons, List.not_mem_nil, or_false] at h
      have key : ∀ a b : Int, a ≠ 0 → b ≠ 0 → sz1 a + sz1 b = size → ([a, b] : List Int).length = 2 ∧ (∀ m ∈ [a, b], m ≠ 0) ∧ (([a, b] : List Int).map sz1).sum = size := fun a b a0 b0 e => by
        refine ⟨rfl, fun m hm => ?_, ?_⟩
        · rcases List.mem_cons.mp hm with z | z
          · rw [z]; exact a0
          · rw [List.mem_singleton.mp z]; exact b0
        · show sz1 a + (sz1 b + 0) = size
          omega
      rcases h with rfl | rfl | rfl | rfl
      · exact key _ _ (by omega) (by omega) (by unfold sz1; omega)
      · exact key _ _ (by omega) (by omega) (by unfold sz1; omega)
      · exact key _ _ (by omega) (by omega) (by unfold sz1; omega)
      · exact key _ _ (by omega) (by omega) (by unfold sz1; omega)
theorem lists_in {many size : Nat} (hm : many = 1 ∨ many = 2) (hs : 1 ≤ size) {r : List Int} (h : r ∈ listsL many size) : r.length = many ∧ (∀ m ∈ r, m ≠ 0) ∧ (r.map sz1).sum = (size : Int) := by
  unfold listsL at h
  rcases hm with rfl | rfl
  · rw [if_pos rfl] at h
    simp only [List.mem_cons, List.not_mem_nil, or_false] at h
    rcases h with rfl | rfl
    · refine ⟨rfl, fun m hm => by rw [List.mem_singleton.mp hm]; omega, ?_⟩
      show sz1 _ + 0 = _
      unfold sz1
      omega
    · refine ⟨rfl, fun m hm => by rw [List.mem_singleton.mp hm]; omega, ?_⟩
      show sz1 _ + 0 = _
      unfold sz1
      omega
  · rw [if_neg (by decide)] at h
    exact lists2_in _ (by omega) h
theorem lists2_len (size : Int) : ∀ N : Nat, (lists2 size N).length = 4 * N
  | 0 => rfl
  | N + 1 => by
    unfold lists2
    rw [List.length_append, lists2_len size N]
    show 4 * N + 4 = _
    omega
end PD

/-! PD221: new lists within a new list, kept in mind by their addresses; the least of them handed back as a new list -/
namespace PD
open PySem PySem.Spec PyProof.Rows L2 Evl
section
variable {c : Cn} {K : PySem.W.Frag} {ds : DS} {pl : List D} {D' : Ends} {G0 : Hp} {Ek : XK} {E : EE}
def NewL (c : Cn) (G0 Gk : Hp) (v : V) (L : List (List Int)) : Prop := ∃ a us, v = .ref a ∧ Gk a = some (.lst us) ∧ us.length = L.length ∧
  ∀ (j : Nat) (u : V) (r : List Int), us[j]? = some u → L[j]? = some r → ∃ p, u = .ref p ∧ Gk p = some (.lst (r.map V.int)) ∧ G0 p = none ∧ c.H0 p = none ∧ c.pin p = none ∧ c.pool ≠ some p ∧ ¬ c.hd p
theorem hs_low {G : Hp} {σ : L2.St} {H : Hp} (h : HS c G σ H ds pl) (hp : c.pool = none) (e : Ex G0 G) : HS c G0 σ H (ds.map fun _ => none) pl := by
  have nn : ∀ a, G a = none → G0 a = none := fun a q => by
    cases z : G0 a with
    | none => rfl
    | some o => rw [e _ _ z] at q; cases q
  refine ⟨e.trans h.sub, fun a q => nn a (h.gh a q), fun a q => nn a (h.gq a q), fun a o q => nn a (h.gn a o q), h.keep, (fun p z => by rw [hp] at z; cases z), h.pin, h.hid, by rw [List.length_map]; exact h.len, fun i w q => ?_, fun i j p xs ys q => ?_⟩
  · rw [List.getElem?_map] at q
    cases z : ds[i]? with
    | none => rw [z] at q; cases q
    | some x => rw [z] at q; cases q
  · rw [List.getElem?_map] at q
    cases z : ds[i]? with
    | none => rw [z] at q; cases q
    | some x => rw [z] at q; cases q
structure Slk (G : Hp) (v : V) (b : Dv) (t l1 l2 : Addr) : Prop where
  ev : v = .ref t
  tt : G t = some (.tup [.ref l1, .ref l2])
  t1 : G l1 = some (.lst ((sl b.1).map V.int))
  t2 : G l2 = some (.lst ((sl b.2).map V.int))
theorem slk_cells {G : Hp} {v : V} {b : Dv} (h : R G v (slD b)) : ∃ t l1 l2, Slk G v b t l1 l2 := by
  cases h with
  | @tup t xs _ e r =>
    cases r with
    | cons r1 t1 =>
      cases t1 with
      | cons r2 t2 =>
        cases t2
        cases r1 with
        | @lst l1 us1 _ e1 s1 =>
        cases r2 with
        | @lst l2 us2 _ e2 s2 =>
        have i1 := s1.ints
        have i2 := s2.ints
        subst i1 i2
        exact ⟨t, l1, l2, rfl, e, e1, e2⟩
theorem ra_int {G : Hp} : ∀ ns : List Int, RA G (ns.map V.int) (ns.map PyData.int)
  | [] => .nil
  | x :: r => .cons (.int x) (ra_int r)
theorem Slk.r {G : Hp} {v : V} {b : Dv} {t l1 l2 : Addr} (h : Slk G v b t l1 l2) : R G v (slD b) := by
  rw [h.ev]
  exact .tup h.tt (.cons (.lst h.t1 (ra_int _)) (.cons (.lst h.t2 (ra_int _)) .nil))
theorem wsk_setNew {F : List D → (D → Prop) → Prop} {i i1 i2 : Nat} {b e : Dv} {L : List (List Int)} (h1 : ds[i1]? = some (some (.d (slD b)))) (h2 : ds[i2]? = some (some (.d (slD e)))) (hF : F [slD b, slD e] fun d => d = .list (lstD L)) (mono : ∀ xs k k', F xs k → (∀ d, k d → k' d) → F xs k')
    (hx : ∀ r ∈ L, r ≠ sl b.1 ∧ r ≠ sl b.2 ∧ r ≠ sl e.1 ∧ r ≠ sl e.2) (hL : L ≠ []) {G00 : Hp} (e0 : Ex G00 G0)
    (k : ∀ Gk v, Ex G0 Gk → NewL c G00 Gk v L → WSK c tNext (ds.set i (some (.v v))) pl D' Gk) : WSK c (tAsg (tCall (spP F) [] Ek (tCons (tVar i1) (tCons (tVar i2) tNil))) (gName i)) ds pl D' G0 := fun G σ H hs eG => by
  obtain ⟨v1, y1, r1⟩ := hs.slots i1 _ h1
  obtain ⟨v2, y2, r2⟩ := hs.slots i2 _ h2
  have r1' : R G v1 (slD b) := r1
  have r2' : R G v2 (slD e) := r2
  obtain ⟨t, l1, l2, s1⟩ := slk_cells r1'
  obtain ⟨t', m1, m2, s2⟩ := slk_cells r2'
  refine ⟨v1, y1, v2, y2, ?_⟩
  show spP F ([v1, v2] ++ []) H _ Ek
  rw [List.append_nil]
  obtain ⟨M, hM⟩ : ∃ M : Hp, M = fun a => if a = t ∨ a = l1 ∨ a = l2 ∨ a = t' ∨ a = m1 ∨ a = m2 then G a else none := ⟨_, rfl⟩
  have Mat : ∀ a, (a = t ∨ a = l1 ∨ a = l2 ∨ a = t' ∨ a = m1 ∨ a = m2) → M a = G a := fun a z => by rw [hM]; exact if_pos z
  have Mno : ∀ a, ¬ (a = t ∨ a = l1 ∨ a = l2 ∨ a = t' ∨ a = m1 ∨ a = m2) → M a = none := fun a z => by rw [hM]; exact if_neg z
  have MG : Ex M G := fun a o q => by
    by_cases z : a = t ∨ a = l1 ∨ a = l2 ∨ a = t' ∨ a = m1 ∨ a = m2
    · rw [Mat a z] at q; exact q
    · rw [Mno a z] at q; cases q
  have s1' : Slk M v1 b t l1 l2 := ⟨s1.ev, by rw [Mat t (.inl rfl)]; exact s1.tt, by rw [Mat l1 (.inr (.inl rfl))]; exact s1.t1, by rw [Mat l2 (.inr (.inr (.inl rfl)))]; exact s1.t2⟩
  have s2' : Slk M v2 e t' m1 m2 := ⟨s2.ev, by rw [Mat t' (.inr (.inr (.inr (.inl rfl))))]; exact s2.tt, by rw [Mat m1 (.inr (.inr (.inr (.inr (.inl rfl)))))]; exact s2.t1, by rw [Mat m2 (.inr (.inr (.inr (.inr (.inr rfl)))))]; exact s2.t2⟩
  have Min : ∀ p us, M p = some (.lst us) → us = (sl b.1).map V.int ∨ us = (sl b.2).map V.int ∨ us = (sl e.1).map V.int ∨ us = (sl e.2).map V.int := fun p us q => by
    by_cases z : p = t ∨ p = l1 ∨ p = l2 ∨ p = t' ∨ p = m1 ∨ p = m2
    · rcases z with z | z | z | z | z | z
      · rw [z, s1'.tt] at q; cases q
      · rw [z, s1'.t1] at q; cases q; exact .inl rfl
      · rw [z, s1'.t2] at q; cases q; exact .inr (.inl rfl)
      · rw [z, s2'.tt] at q; cases q
      · rw [z, s2'.t1] at q; cases q; exact .inr (.inr (.inl rfl))
      · rw [z, s2'.t2] at q; cases q; exact .inr (.inr (.inr rfl))
    · rw [Mno p z] at q
      cases q
  refine ⟨M, [slD b, slD e], MG.trans hs.sub, .cons s1'.r (.cons s2'.r .nil), mono _ _ _ hF fun d hd v G' H' a1 a2 a3 a4 a5 => ?_⟩
  subst hd
  obtain ⟨U, hU⟩ : ∃ U : Hp, U = fun a => match G a with | some o => some o | none => G' a := ⟨_, rfl⟩
  have Ug : ∀ a o, G a = some o → U a = some o := fun a o q => by rw [hU]; show (match G a with | some o => some o | none => G' a) = _; rw [q]
  have Un : ∀ a, G a = none → U a = G' a := fun a q => by rw [hU]; show (match G a with | some o => some o | none => G' a) = _; rw [q]
  have U' : Ex G' U := fun a o q => by
    cases z : G a with
    | none => rw [Un a z]; exact q
    | some o' =>
      rw [Ug a o' z]
      cases y : M a with
      | none => rw [a4 a o' (hs.sub _ _ z) y] at q; cases q
      | some o2 =>
        have z2 := MG _ _ y
        rw [z] at z2
        have y2 := a3 _ _ y
        rw [q] at y2
        rw [Option.some.inj z2, ← Option.some.inj y2]
  have hs' : HS c U σ H' ds pl := hs.ext a1 (fun a o q => by
    cases z : G a with
    | none => rw [Un a z] at q; exact a2 _ _ q
    | some o' => rw [Ug a o' z] at q; cases q; exact a1 _ _ (hs.sub _ _ z)) Ug fun a o q z => by
      rw [Un a z]
      refine a4 a o q ?_
      cases y : M a with
      | none => rfl
      | some o2 => rw [MG _ _ y] at z; cases z
  have n00 : ∀ p, G p = none → G00 p = none := fun p q => by
    cases z : G00 p with
    | none => rfl
    | some o => rw [eG _ _ (e0 _ _ z)] at q; cases q
  refine k U v (eG.trans Ug) ?_ U _ H' (hs'.setV i v) (Ex.refl _)
  cases a5 with
  | @lst a us _ q r =>
    refine ⟨a, us, rfl, U' _ _ q, by have := r.len; unfold lstD at this; rw [List.length_map] at this; exact this, fun j u rr hu hr => ?_⟩
    obtain ⟨y, hy, ry⟩ := ra_at r j u hu
    unfold lstD at hy
    rw [List.getElem?_map, hr] at hy
    cases hy
    cases ry with
    | @lst p us2 _ q2 r2 =>
      have i2 := r2.ints
      subst i2
      refine ⟨p, rfl, U' _ _ q2, ?_⟩
      have hn := hx rr (List.mem_of_getElem? hr)
      have inj : ∀ {x y : List Int}, x.map V.int = y.map V.int → x = y := fun {x y} h => List.map_inj_right (fun a b z => V.int.inj z) |>.mp h
      have Mp : M p = none := by
        cases z : M p with
        | none => rfl
        | some o =>
          have z2 := a3 _ _ z
          rw [q2] at z2
          cases z2
          rcases Min p _ z with w | w | w | w
          · exact absurd (inj w) hn.1
          · exact absurd (inj w) hn.2.1
          · exact absurd (inj w) hn.2.2.1
          · exact absurd (inj w) hn.2.2.2
      have Hp : H p = none := by
        cases z : H p with
        | none => rfl
        | some o => rw [a4 p o z Mp] at q2; cases q2
      obtain ⟨n1, n2, n3, n4, n5⟩ := hs.none_of Hp
      exact ⟨n00 p n1, n5, n3, n4, n2⟩
theorem wsk_ifLen {i : Nat} {v : V} {L : List (List Int)} {G00 Gk : Hp} {t u : TS} (hi : ds[i]? = some (some (.v v))) (hn : NewL c G00 Gk v L) (ek : Ex Gk G0) (ne : L ≠ []) (h : WSK c u ds pl D' G0) :
    WSK c (tIfS (tTest (tOp (rEqU K) (tCB (rLenQ K) (tCons (tVar i) tNil)) (tC (.int 0)))) t u) ds pl D' G0 := fun G σ H hs e => by
  obtain ⟨v', y1, y2⟩ := hs.slots i _ hi
  have y2' : v' = v := y2
  subst y2'
  obtain ⟨a, us, rfl, q, l, _⟩ := hn
  refine ⟨_, y1, a, us, rfl, .inl (SqL.of (hs.sub _ _ (e _ _ (ek _ _ q)))), ?_⟩
  have pos : us.length ≠ 0 := fun z => ne (List.eq_nil_of_length_eq_zero (by omega))
  refine .inr ⟨rfl, ?_⟩
  have e1 : decide (V.int (us.length : Int) = V.int 0) = false := decide_eq_false fun z => pos (by have := V.int.inj z; omega)
  rw [e1]
  exact ⟨false, rfl, h G σ H hs e⟩
theorem wsk_retMin {F : List D → (D → Prop) → Prop} {i : Nat} {v : V} {L : List (List Int)} {G00 Gk : Hp} (kf : D → D) (hi : ds[i]? = some (some (.v v))) (hn : NewL c G00 Gk v L) (ek : Ex Gk G0) (e00 : Ex G00 G0) (hp : c.pool = none) (ft : Fits c G00 D' E)
    (ne : L ≠ []) (hF : ∀ y ∈ lstD L, F [y] fun d => d = kf y) (mono : ∀ xs k k', F xs k → (∀ d, k d → k' d) → F xs k')
    (hal : ∀ y ∈ lstD L, ∀ z ∈ lstD L, PySem.W.alike (kf y) (kf z) = true ∧ kf y ≠ .none ∧ (kf y).depth ≤ 20)
    (hr : ∀ r : List Int, (lstD L)[argBest (fun i j => PySem.W.dataLt (kf ((lstD L).getD i .none)) (kf ((lstD L).getD j .none))) ((lstD L).length - 1)]? = some (.list (r.map PyData.int)) → E.rt (.o (r.map PyData.int)) pl) :
    WSK c (tRet (tMinK K (spP F) (tCons (tVar i) tNil))) ds pl D' G0 := fun G σ H hs e => by
  obtain ⟨v', y1, y2⟩ := hs.slots i _ hi
  have y2' : v' = v := y2
  subst y2'
  obtain ⟨a, us, rfl, q, l, hj⟩ := hn
  have GG := ek.trans e
  have lL : (lstD L).length = us.length := by unfold lstD; rw [List.length_map]; exact l.symm
  have at0 : ∀ (j : Nat) (u : V), us[j]? = some u → ∃ r, L[j]? = some r ∧ (lstD L)[j]? = some (.list (r.map PyData.int)) := fun j u hu => by
    have hl := (List.getElem?_eq_some_iff.mp hu).1
    refine ⟨L[j]'(by omega), List.getElem?_eq_getElem _, ?_⟩
    unfold lstD
    rw [List.getElem?_map, List.getElem?_eq_getElem (by omega : j < L.length)]
    rfl
  have gd : ∀ (i : Nat) (y : D), (lstD L)[i]? = some y → (lstD L).getD i .none = y := fun i y e => by rw [List.getD_eq_getElem?_getD, e]; rfl
  have at' : ∀ i, i < us.length → (lstD L).getD i .none ∈ lstD L := fun i hi => by
    rw [List.getD_eq_getElem?_getD, List.getElem?_eq_getElem (show i < (lstD L).length by omega)]
    exact List.getElem_mem _
  have pos : 0 < us.length := by
    have : L.length ≠ 0 := fun z => ne (List.eq_nil_of_length_eq_zero z)
    omega
  refine ⟨_, y1, a, us, fun i => kf ((lstD L).getD i .none), fun l H2 => ∃ G2, HS c G2 σ H2 ds pl ∧ Ex G G2 ∧ ∀ p ∈ l, R G2 p.1 (kf ((lstD L).getD p.2 .none)), rfl, pos, ⟨G, hs, Ex.refl _, fun p hp => nomatch hp⟩, ?_, ?_, ?_, ?_, ?_⟩
  · rintro l H2 ⟨G2, h2, x2, _⟩
    exact SqL.of (h2.sub _ _ (x2 _ _ (GG _ _ q)))
  · rintro l H2 y i ⟨G2, h2, x2, hl⟩ hm
    exact R.dp _ _ ((hl _ hm).up h2.sub)
  · rintro l i x H2 hx ⟨G2, h2, x2, hl⟩
    obtain ⟨r, hr1, hr2⟩ := at0 i x hx
    obtain ⟨p, rfl, qp, _⟩ := hj i x r hx hr1
    have ry : R G2 (.ref p) (.list (r.map PyData.int)) := .lst (x2 _ _ (GG _ _ qp)) (ra_int _)
    refine ⟨G2, [.list (r.map PyData.int)], h2.sub, .cons ry .nil, mono _ _ _ (hF _ (List.mem_of_getElem? hr2)) fun d hd v G' H' a1 a2 a3 a4 a5 => ⟨G', h2.ext a1 a2 a3 a4, x2.trans a3, fun p hp => ?_⟩⟩
    rcases List.mem_cons.mp hp with z | z
    · rw [z]
      show R G' v (kf ((lstD L).getD i .none))
      rw [gd i _ hr2, ← hd]
      exact a5
    · exact (hl p z).up a3
  · exact fun i j hi hj => hal _ (at' i hi) _ (at' j hj)
  · rintro l x H2 ⟨G2, h2, x2, _⟩ hx
    obtain ⟨r, hr1, hr2⟩ := at0 _ x hx
    obtain ⟨p, rfl, qp, n1, n2, n3, n4, n5⟩ := hj _ x r hx hr1
    have G2p := x2 _ _ (GG _ _ qp)
    exact ft.rt (.ref p) G00 σ H2 _ (.o (r.map PyData.int)) pl (hs_low h2 hp ((e00.trans e).trans x2)) (Ex.refl _) ⟨p, _, rfl, h2.sub _ _ G2p, ra_int _, n1, n2, n3, n4, n5⟩ (hr r (by rw [lL]; exact hr2))
end
theorem not_sl {c : Comb} (ok : c.Ok) {r : List Int} (h : (∃ m ∈ r, m < 0) ∨ ∃ x, r = [x] ∧ x ≠ 0) : r ≠ sl c := fun e => by
  rcases h with ⟨m, hm, m0⟩ | ⟨x, hx, x0⟩
  · rw [e] at hm
    have := (sl_rng ok hm).1
    omega
  · rw [hx] at e
    have l := sl_len ok
    rw [← e] at l
    have p1 : c.p = 1 := by rw [← l]; rfl
    have hm : slk c 0 ∈ sl c := sl_mem' ok 0
    rw [← e] at hm
    have := List.mem_singleton.mp hm
    have a := slk_nn ok 0
    have b := slk_lt ok 0
    omega
theorem sgl_not {b e : Dv} (ob : b.Ok) (oe : e.Ok) : ∀ r ∈ (sglI b e).map fun x => [x], r ≠ sl b.1 ∧ r ≠ sl b.2 ∧ r ≠ sl e.1 ∧ r ≠ sl e.2 := fun r hr => by
  obtain ⟨x, hx, rfl⟩ := List.mem_map.mp hr
  have a1 := slk_nn ob.1 0
  have a2 := slk_nn oe.1 0
  have b1 := slk_nn ob.2 0
  have b2 := slk_nn oe.2 0
  have x0 : x ≠ 0 := by
    unfold sglI at hx
    rcases List.mem_append.mp hx with h | h
    · split at h
      · cases h
      · have := List.mem_singleton.mp h; omega
    · split at h
      · cases h
      · have := List.mem_singleton.mp h; omega
  have q : (∃ m ∈ [x], m < 0) ∨ ∃ y, [x] = [y] ∧ y ≠ 0 := .inr ⟨x, rfl, x0⟩
  exact ⟨not_sl ob.1 q, not_sl ob.2 q, not_sl oe.1 q, not_sl oe.2 q⟩
theorem dbl_not {b e : Dv} (ob : b.Ok) (oe : e.Ok) (N M : Nat) : ∀ r ∈ (dblP b e N M).map fun p => [p.1, p.2], r ≠ sl b.1 ∧ r ≠ sl b.2 ∧ r ≠ sl e.1 ∧ r ≠ sl e.2 := fun r hr => by
  obtain ⟨p, hp, rfl⟩ := List.mem_map.mp hr
  have a1 := slk_nn ob.1 0
  have b1 := slk_nn ob.2 0
  have q : (∃ m ∈ [p.1, p.2], m < 0) ∨ ∃ y, [p.1, p.2] = [y] ∧ y ≠ 0 := by
    refine .inl ?_
    rcases List.mem_append.mp hp with h | h
    · obtain ⟨i, hi, _, ep⟩ := (prs_mem N).mp h
      have c1 := slk_nn ob.1 ((i : Int) + 1)
      have c2 := slk_nn oe.1 ((i : Int) + 1)
      exact ⟨p.2, List.mem_cons_of_mem _ (List.mem_singleton.mpr rfl), by rw [ep]; show -1 * _ < 0; omega⟩
    · obtain ⟨i, hi, _, ep⟩ := (prs_mem M).mp h
      exact ⟨p.1, List.mem_cons_self .., by rw [ep]; show -1 * _ < 0; omega⟩
  exact ⟨not_sl ob.1 q, not_sl ob.2 q, not_sl oe.1 q, not_sl oe.2 q⟩
def PartO (v : Dv) (s : Sv) (w : Dv) (t : Sv) (o : Option (List D)) : Prop := PartD v s w t (noD o)
end PD

/-! PD222: a new list that came back kept as a pin, and changed -/
namespace PD
open PySem PySem.Spec PyProof.Rows L2 Evl
section
variable {c : Cn} {K : PySem.W.Frag} {ds : DS} {pl : List D} {tr : TA} {u : TS} {D' : Ends} {G0 : Hp} {Ek : XK} {A : Type} {enc : A → List D} {pre : A → Prop} {post : A → Option (List D) → Prop}
theorem wsk_setNoP {i : Nat} (a : A) (ha : WA c tr ds pl fun xs p1 => xs = enc a ∧ pre a ∧ ∀ o, post a o → (o = none ∧ WSK c u (ds.set i (some (.d .none))) p1 D' G0) ∨ ∃ ms : List Int, o = some (ms.map PyData.int) ∧ ∀ p, Fresh c (one p (.lst (ms.map V.int))) → WSK (c.pinP (one p (.lst (ms.map V.int)))) u (ds.set i (some (.v (.ref p)))) p1 D' G0) :
    WSK c (tSeq (tAsg (tCall (spNo (noF enc pre post)) [] Ek tr) (gName i)) u) ds pl D' G0 := fun G σ H hs e => ha G σ H hs _ fun vs G1 H1 xs p1 h1 e1 f1 ⟨g1, g2, g3⟩ => by
  rw [List.append_nil]
  refine ⟨G1, xs, h1.sub, f1, a, g1, g2, fun o po v G' H' a1 a2 a3 a4 a5 => ?_⟩
  rcases g3 o po with ⟨eo, k⟩ | ⟨ms, eo, k⟩
  · subst eo
    have a5' : v = .non := a5
    subst a5'
    exact k G' _ H' ((h1.ext a1 a2 a3 a4).set (w := .d .none) R.non fun xs z => by cases z) ((e.trans e1).trans a3)
  · subst eo
    obtain ⟨p, us, ev, b1, b2, b3, b4⟩ := a5
    have iu := b4.ints
    subst iu
    subst ev
    have one_at' : ∀ (a : Addr) (o : HO), one p (.lst (ms.map V.int)) a = some o → a = p ∧ o = .lst (ms.map V.int) := fun a o q => one_some q
    refine k p (fun a o q => ?_) G1 _ H' ((h1.pinNew a1 fun a o q => by
      obtain ⟨e1, e2⟩ := one_at' a o q
      rw [e1, e2]
      exact ⟨b3, b1⟩).setV i (.ref p)) (e.trans e1)
    obtain ⟨e1, e2⟩ := one_at' a o q
    have n := h1.none_of (p := a) (by rw [e1]; exact b1)
    exact ⟨n.2.2.2.2, n.2.2.1, n.2.1, n.2.2.2.1⟩
theorem wsk_appPN {te : TE} {P : Hp} {i : Nat} {qa : Addr} {us : List V} (hi : ds[i]? = some (some (.v (.ref qa)))) (F : Fresh c P) (hq : P qa = some (.lst us)) (hl : us.length < sizeLine)
    (h : WE (c.pinP P) te ds pl (isD fun d p1 => d = .none ∧ (Fresh c (upd P qa (.lst (us ++ [V.non]))) → WSK (c.pinP (upd P qa (.lst (us ++ [V.non])))) u ds p1 D' G0))) :
    WSK (c.pinP P) (tSeq (tDrop (tBM K "list" rAppend (tVar i) (tCons te tNil))) u) ds pl D' G0 := fun G σ H hs e => by
  obtain ⟨v, e1, e2⟩ := hs.slots i _ hi
  have e2' : v = .ref qa := e2
  subst e2'
  have p4 := hs.pin _ _ (pinP_at hq)
  refine ⟨_, e1, .inl ⟨rfl, us, SqL.of p4⟩, h G σ H hs _ ?_⟩
  intro v2 G1 H1 w p1 h1 x1 f1 g1
  match w, f1, g1 with
  | .d d, f1, ⟨ez, g1⟩ =>
    subst ez
    cases f1
    have q1 := h1.pin _ _ (pinP_at hq)
    obtain ⟨F', h2⟩ := h1.pinApp (x := V.non) F hq
    exact ⟨qa, us, _, rfl, rfl, q1, hl, g1 F' G1 σ _ h2 (e.trans x1)⟩
end
theorem one_r (p : Addr) (ms : List Int) : R (one p (.lst (ms.map V.int))) (.ref p) (.list (ms.map PyData.int)) := .lst one_at (ra_int ms)
theorem okD_ms {v w : Dv} {s t : Sv} {ms : List Int} (h : PartD v s w t (.list (ms.map PyData.int))) : okD 20 (.list (ms.map PyData.int)) := fun y hy => by
  obtain ⟨r, hr, rfl⟩ := List.mem_map.mp hy
  exact okD_int (B := 1000) ((part_looks h).2.2.2.1 r hr).2 (by decide +kernel)
end PD

/-! PD223: not in a tuple of numbers -/
namespace PD
open PySem PySem.Spec PyProof.Rows L2 Evl
section
variable {c : Cn} {K : PySem.W.Frag} {ds : DS} {pl : List D} {Φ : W → List D → Prop}
theorem os_notinT {i : Int} {ns : List Int} {p2 : List D} (h : Φ (.d (.bool (!decide (i ∈ ns)))) p2) : OpS c (rIn K true) ds (.int i) (.tuple (ns.map PyData.int)) p2 Φ := fun G σ H v u hs hv hu Q q => by
  have ev := hv.int
  subst ev
  rcases hu with hu | ⟨p, vs, xs, rfl, e, _⟩
  · cases hu with
    | tup a b =>
      have evs := b.ints
      subst evs
      refine ⟨_, _, rfl, .inr (SqT.of (hs.sub _ _ a)), rfl, flat_ints ns, ?_⟩
      show Q (.bl (!inV (.int i) (ns.map V.int))) H
      rw [inV_ints]
      exact q _ G H (.d _) p2 hs (Ex.refl _) (R.bl _) h
  · cases e
end
theorem told_len {v w : Dv} {s t : Sv} {ms : List Int} (h : PartD v s w t (.list (ms.map PyData.int))) : (ms.length : Int) ∈ ([1, 2] : List Int) := by
  have a := (part_looks h).2.2.2.2
  have : (ms.length : Int) = 1 ∨ (ms.length : Int) = 2 := by omega
  rcases this with e | e <;> rw [e] <;> simp
end PD

/-! PD224: four pairs of devices, what parts them -/
namespace PD
open PySem PySem.Spec PyProof.Rows L2 Evl
instance (a b : Int) : Decidable (lt1 a b) := by unfold lt1; infer_instance
instance (a b : Int × Int) : Decidable (lt2 a b) := by unfold lt2; infer_instance
theorem seen_here {v : Dv} (ok : v.Ok) : SeenAs v (0, 0) v := ⟨ok, ok, fun n => by rw [show n + ((0, 0) : Sv).1 = n from Int.add_zero n], fun n => by rw [show n + lf (0, 0) = n from Int.add_zero n]⟩
theorem tell_1 : PartD (tenA, tenB) (0, 0) (tenA, five) (0, 0) (.list [.int (-5), .int 1]) :=
  told_double (p := (-5, 1)) (N := 10) (M := 10) (seen_here ⟨okA, okB⟩) (seen_here ⟨okA, okF⟩) (by decide) (by decide) (by decide) (by decide) (by decide) (by decide) (by decide) (by decide) (by decide +kernel) (by decide +kernel) (by decide +kernel)
theorem tell_2 : PartD (tenA, tenB) (0, 0) (tenB, tenB) (0, 0) (.list [.int 3, .int (-1)]) :=
  told_double (p := (3, -1)) (N := 10) (M := 10) (seen_here ⟨okA, okB⟩) (seen_here ⟨okB, okB⟩) (by decide) (by decide) (by decide) (by decide) (by decide) (by decide) (by decide) (by decide) (by decide +kernel) (by decide +kernel) (by decide +kernel)
theorem tell_3 : PartD (tenA, tenB) (3, 0) (tenA, tenB) (0, 0) (.list [.int 1]) :=
  told_single (x := 1) (b := (tenC, tenD)) (.of ⟨okA, okB⟩ ⟨okC, okD'⟩ (same_by (b := tenC) (c := tenA) (by decide) rfl 3 (by decide +kernel)) (same_by (b := tenD) (c := tenB) (by decide) rfl 3 (by decide +kernel))) (seen_here ⟨okA, okB⟩) (by decide +kernel) (by decide +kernel)
theorem tell_4 : PartD (tenA, tenB) (0, 0) (tenA, tenB) (10, -10) .none := by
  refine .inl ⟨rfl, fun n => ?_, fun n => ?_⟩
  · have := caught_up (c := tenA) n 1
    show caught tenA (n + 0) = caught tenA (n + 10)
    rw [Int.add_zero]
    exact this.symm
  · have := caught_up (c := tenB) n 2
    show caught tenB (n + (0 - 0)) = caught tenB (n + (10 - -10))
    rw [show n + (0 - 0) = n by omega]
    exact this.symm
theorem held_1 : held (tenA, tenB) (0, 0) = true := by decide +kernel
theorem held_2 : held (tenA, five) (0, 0) = true := by decide +kernel
theorem held_3 : held (tenB, tenB) (0, 0) = true := by decide +kernel
theorem held_4 : held (tenA, tenB) (3, 0) = true := by decide +kernel
theorem held_5 : held (tenA, tenB) (10, -10) = true := by decide +kernel
end PD

/-! PD225: alike places, moved and pumped -/
namespace PD
open PySem PySem.Spec PyProof.Rows L2 Evl
end PD

/-! PD226: alike places have one mean -/
namespace PD
open PySem PySem.Spec PyProof.Rows L2 Evl
end PD

/-! PD227: alike places have one mean (2) -/
namespace PD
open PySem PySem.Spec PyProof.Rows L2 Evl
end PD

namespace K
open PySem PySem.Spec PyProof.Rows L2 Evl PD
/-! ### the text of the program and of the law, by places -/
def topS (i : Nat) : Stmt := PySem.Challenge.pw_twocombs_k30_parting_moves.main.body.getD i (.Pass ⟨0, 0, 0, 0⟩)
abbrev s_is_whole : Stmt := topS 7
theorem sc_is_whole : FnScope ["value"] ["value"] (defScope s_is_whole) := ⟨rfl, rfl, rfl, by decide +kernel, rfl, by decide +kernel, by decide +kernel⟩
abbrev s_is_pair : Stmt := topS 8
theorem sc_is_pair : FnScope ["value"] ["value"] (defScope s_is_pair) := ⟨rfl, rfl, rfl, by decide +kernel, rfl, by decide +kernel, by decide +kernel⟩
abbrev s_is_whole_pair : Stmt := topS 9
theorem sc_is_whole_pair : FnScope ["value"] ["value"] (defScope s_is_whole_pair) := ⟨rfl, rfl, rfl, by decide +kernel, rfl, by decide +kernel, by decide +kernel⟩
abbrev s_catches : Stmt := topS 12
theorem sc_catches : FnScope ["comb", "number", "pitch", "teeth"] ["comb", "number"] (defScope s_catches) := ⟨rfl, rfl, rfl, by decide +kernel, rfl, by decide +kernel, by decide +kernel⟩
abbrev s_floor_catch : Stmt := topS 13
theorem sc_floor_catch : FnScope ["comb", "number", "pitch", "teeth", "rest", "start", "lower", "tooth"] ["comb", "number"] (defScope s_floor_catch) := ⟨rfl, rfl, rfl, by decide +kernel, rfl, by decide +kernel, by decide +kernel⟩
abbrev s_copied_comb : Stmt := topS 14
theorem sc_copied_comb : FnScope ["comb", "pitch", "teeth"] ["comb"] (defScope s_copied_comb) := ⟨rfl, rfl, rfl, by decide +kernel, rfl, by decide +kernel, by decide +kernel⟩
abbrev s_is_pitch : Stmt := topS 15
theorem sc_is_pitch : FnScope ["value"] ["value"] (defScope s_is_pitch) := ⟨rfl, rfl, rfl, by decide +kernel, rfl, by decide +kernel, by decide +kernel⟩
abbrev s_are_teeth : Stmt := topS 16
theorem sc_are_teeth : FnScope ["value", "pitch", "low", "high", "tooth"] ["value", "pitch"] (defScope s_are_teeth) := ⟨rfl, rfl, rfl, by decide +kernel, rfl, by decide +kernel, by decide +kernel⟩
abbrev s_check_comb : Stmt := topS 17
theorem sc_check_comb : FnScope ["comb", "pitch", "teeth"] ["comb"] (defScope s_check_comb) := ⟨rfl, rfl, rfl, by decide +kernel, rfl, by decide +kernel, by decide +kernel⟩
abbrev s_check_device : Stmt := topS 18
theorem sc_check_device : FnScope ["device", "index", "comb"] ["device"] (defScope s_check_device) := ⟨rfl, rfl, rfl, by decide +kernel, rfl, by decide +kernel, by decide +kernel⟩
abbrev s_is_comb : Stmt := topS 19
theorem sc_is_comb : FnScope ["value"] ["value"] (defScope s_is_comb) := ⟨rfl, rfl, rfl, by decide +kernel, rfl, by decide +kernel, by decide +kernel⟩
abbrev s_plain_comb : Stmt := topS 20
theorem sc_plain_comb : FnScope ["comb", "pitch", "teeth", "part"] ["comb"] (defScope s_plain_comb) := ⟨rfl, rfl, rfl, by decide +kernel, rfl, by decide +kernel, by decide +kernel⟩
abbrev s_teeth_under : Stmt := topS 21
theorem sc_teeth_under : FnScope ["teeth", "part", "tooth"] ["teeth", "part"] (defScope s_teeth_under) := ⟨rfl, rfl, rfl, by decide +kernel, rfl, by decide +kernel, by decide +kernel⟩
abbrev s_repeated_teeth : Stmt := topS 22
theorem sc_repeated_teeth : FnScope ["teeth", "part", "pitch", "first", "start", "tooth"] ["teeth", "part", "pitch"] (defScope s_repeated_teeth) := ⟨rfl, rfl, rfl, by decide +kernel, rfl, by decide +kernel, by decide +kernel⟩
abbrev s_is_held : Stmt := topS 24
theorem sc_is_held : FnScope ["device", "height", "hand", "ground", "grip"] ["device", "height", "hand"] (defScope s_is_held) := ⟨rfl, rfl, rfl, by decide +kernel, rfl, by decide +kernel, by decide +kernel⟩
abbrev s_fits_device : Stmt := topS 25
theorem sc_fits_device : FnScope ["device", "value"] ["device", "value"] (defScope s_fits_device) := ⟨rfl, rfl, rfl, by decide +kernel, rfl, by decide +kernel, by decide +kernel⟩
abbrev s_check_state : Stmt := topS 26
theorem sc_check_state : FnScope ["device", "state"] ["device", "state"] (defScope s_check_state) := ⟨rfl, rfl, rfl, by decide +kernel, rfl, by decide +kernel, by decide +kernel⟩
abbrev s_comb_slacks : Stmt := topS 28
theorem sc_comb_slacks : FnScope ["comb", "pitch", "_", "rest"] ["comb"] (defScope s_comb_slacks) := ⟨rfl, rfl, rfl, by decide +kernel, rfl, by decide +kernel, by decide +kernel⟩
abbrev s_device_slacks : Stmt := topS 29
theorem sc_device_slacks : FnScope ["device", "ground", "grip"] ["device"] (defScope s_device_slacks) := ⟨rfl, rfl, rfl, by decide +kernel, rfl, by decide +kernel, by decide +kernel⟩
abbrev s_check_begun : Stmt := topS 31
theorem sc_check_begun : FnScope ["device", "state"] ["device", "state"] (defScope s_check_begun) := ⟨rfl, rfl, rfl, by decide +kernel, rfl, by decide +kernel, by decide +kernel⟩
abbrev s_check_both : Stmt := topS 32
theorem sc_check_both : FnScope ["device", "state", "second", "start"] ["device", "state", "second", "start"] (defScope s_check_both) := ⟨rfl, rfl, rfl, by decide +kernel, rfl, by decide +kernel, by decide +kernel⟩
abbrev s_shifted_comb : Stmt := topS 33
theorem sc_shifted_comb : FnScope ["comb", "distance", "pitch", "teeth", "tooth"] ["comb", "distance"] (defScope s_shifted_comb) := ⟨rfl, rfl, rfl, by decide +kernel, rfl, by decide +kernel, by decide +kernel⟩
abbrev s_shifted_device : Stmt := topS 34
theorem sc_shifted_device : FnScope ["device", "state", "ground", "grip", "height", "hand"] ["device", "state"] (defScope s_shifted_device) := ⟨rfl, rfl, rfl, by decide +kernel, rfl, by decide +kernel, by decide +kernel⟩
abbrev s_are_alike : Stmt := topS 35
theorem sc_are_alike : FnScope ["device", "state", "second", "start"] ["device", "state", "second", "start"] (defScope s_are_alike) := ⟨rfl, rfl, rfl, by decide +kernel, rfl, by decide +kernel, by decide +kernel⟩
abbrev s_parting_size : Stmt := topS 36
theorem sc_parting_size : FnScope ["ones", "others", "place", "one", "other"] ["ones", "others", "place"] (defScope s_parting_size) := ⟨rfl, rfl, rfl, by decide +kernel, rfl, by decide +kernel, by decide +kernel⟩
abbrev s_single_partings : Stmt := topS 37
theorem sc_single_partings : FnScope ["first", "second", "down", "up", "found"] ["first", "second"] (defScope s_single_partings) := ⟨rfl, rfl, rfl, by decide +kernel, rfl, by decide +kernel, by decide +kernel⟩
abbrev s_parting_pairs : Stmt := topS 38
theorem sc_parting_pairs : FnScope ["ones", "others", "slack", "sign", "found", "place", "size"] ["ones", "others", "slack", "sign"] (defScope s_parting_pairs) := ⟨rfl, rfl, rfl, by decide +kernel, rfl, by decide +kernel, by decide +kernel⟩
abbrev s_double_partings : Stmt := topS 39
theorem sc_double_partings : FnScope ["first", "second", "sink", "slack", "by_ground", "by_grip"] ["first", "second"] (defScope s_double_partings) := ⟨rfl, rfl, rfl, by decide +kernel, rfl, by decide +kernel, by decide +kernel⟩
abbrev s_parting_rank : Stmt := topS 40
theorem sc_parting_rank : FnScope ["moves", "move"] ["moves"] (defScope s_parting_rank) := ⟨rfl, rfl, rfl, by decide +kernel, rfl, by decide +kernel, by decide +kernel⟩
abbrev s_parting_moves : Stmt := topS 41
theorem sc_parting_moves : FnScope ["device", "state", "second", "start", "first_slacks", "second_slacks", "found"] ["device", "state", "second", "start"] (defScope s_parting_moves) := ⟨rfl, rfl, rfl, by decide +kernel, rfl, by decide +kernel, by decide +kernel⟩
abbrev s__law_jar : Stmt := topS 43
theorem sc__law_jar : FnScope ["script", "at", "cell"] ["script", "at"] (defScope s__law_jar) := ⟨rfl, rfl, rfl, by decide +kernel, rfl, by decide +kernel, by decide +kernel⟩
abbrev s__law_pick : Stmt := topS 44
theorem sc__law_pick : FnScope ["jar", "bound", "drawn", "mixed"] ["jar", "bound"] (defScope s__law_pick) := ⟨rfl, rfl, rfl, by decide +kernel, rfl, by decide +kernel, by decide +kernel⟩
abbrev s__law_comb : Stmt := topS 45
theorem sc__law_comb : FnScope ["jar", "most", "wide", "many", "left", "found", "lap"] ["jar", "most"] (defScope s__law_comb) := ⟨rfl, rfl, rfl, by decide +kernel, rfl, by decide +kernel, by decide +kernel⟩
abbrev s__law_pair : Stmt := topS 46
theorem sc__law_pair : FnScope ["jar", "most", "one", "two"] ["jar", "most"] (defScope s__law_pair) := ⟨rfl, rfl, rfl, by decide +kernel, rfl, by decide +kernel, by decide +kernel⟩
abbrev s__law_under : Stmt := topS 47
theorem sc__law_under : FnScope ["comb_here", "spot", "rest", "below", "tooth"] ["comb_here", "spot"] (defScope s__law_under) := ⟨rfl, rfl, rfl, by decide +kernel, rfl, by decide +kernel, by decide +kernel⟩
abbrev s__law_moved : Stmt := topS 48
theorem sc__law_moved : FnScope ["pair", "high", "arm", "step", "lift"] ["pair", "high", "arm", "step"] (defScope s__law_moved) := ⟨rfl, rfl, rfl, by decide +kernel, rfl, by decide +kernel, by decide +kernel⟩
abbrev s__law_behind : Stmt := topS 49
theorem sc__law_behind : FnScope ["pair", "high", "arm", "steps", "step"] ["pair", "high", "arm", "steps"] (defScope s__law_behind) := ⟨rfl, rfl, rfl, by decide +kernel, rfl, by decide +kernel, by decide +kernel⟩
abbrev s__law_rise : Stmt := topS 50
theorem sc__law_rise : FnScope ["pair", "start_here", "step", "low", "lift", "later", "more"] ["pair", "start_here", "step"] (defScope s__law_rise) := ⟨rfl, rfl, rfl, by decide +kernel, rfl, by decide +kernel, by decide +kernel⟩
abbrev s__law_begin : Stmt := topS 51
theorem sc__law_begin : FnScope ["pair", "stand"] ["pair", "stand"] (defScope s__law_begin) := ⟨rfl, rfl, rfl, by decide +kernel, rfl, by decide +kernel, by decide +kernel⟩
abbrev s__law_stand : Stmt := topS 52
theorem sc__law_stand : FnScope ["jar", "pair", "far", "arm", "high"] ["jar", "pair", "far"] (defScope s__law_stand) := ⟨rfl, rfl, rfl, by decide +kernel, rfl, by decide +kernel, by decide +kernel⟩
abbrev s__law_steps : Stmt := topS 53
theorem sc__law_steps : FnScope ["jar", "many", "far", "found", "lap", "size"] ["jar", "many", "far"] (defScope s__law_steps) := ⟨rfl, rfl, rfl, by decide +kernel, rfl, by decide +kernel, by decide +kernel⟩
abbrev s__law_parts : Stmt := topS 54
theorem sc__law_parts : FnScope ["one", "two", "first", "other", "steps", "spot", "step", "told", "again"] ["one", "two", "first", "other", "steps"] (defScope s__law_parts) := ⟨rfl, rfl, rfl, by decide +kernel, rfl, by decide +kernel, by decide +kernel⟩
abbrev s__law_lists : Stmt := topS 55
theorem sc__law_lists : FnScope ["many", "size", "found", "part"] ["many", "size"] (defScope s__law_lists) := ⟨rfl, rfl, rfl, by decide +kernel, rfl, by decide +kernel, by decide +kernel⟩
abbrev s__law_is_least : Stmt := topS 56
theorem sc__law_is_least : FnScope ["one", "two", "first", "other", "told", "total", "size", "some", "step"] ["one", "two", "first", "other", "told"] (defScope s__law_is_least) := ⟨rfl, rfl, rfl, by decide +kernel, rfl, by decide +kernel, by decide +kernel⟩
abbrev s__law_right : Stmt := topS 57
theorem sc__law_right : FnScope ["jar", "most", "is_small", "pair", "stand", "other", "kind", "place", "kept", "told", "first", "last", "again", "step"] ["jar", "most", "is_small"] (defScope s__law_right) := ⟨rfl, rfl, rfl, by decide +kernel, rfl, by decide +kernel, by decide +kernel⟩
abbrev s_law : Stmt := topS 58
theorem sc_law : FnScope ["script", "at", "jar", "lap", "one", "two", "three", "told"] ["script"] (defScope s_law) := ⟨rfl, rfl, rfl, by decide +kernel, rfl, by decide +kernel, by decide +kernel⟩
structure Tx (K : PySem.W.Frag) (mg : Str → Option Value) : Prop where
  n_abs : mg "abs" = none
  n_all : mg "all" = none
  n_bool : mg "bool" = none
  n_enumerate : mg "enumerate" = none
  n_int : mg "int" = none
  n_isinstance : mg "isinstance" = none
  n_len : mg "len" = none
  n_list : mg "list" = none
  n_max : mg "max" = none
  n_min : mg "min" = none
  n_range : mg "range" = none
  n_repr : mg "repr" = none
  n_sorted : mg "sorted" = none
  n_sum : mg "sum" = none
  n_tuple : mg "tuple" = none
  n_zip : mg "zip" = none
  c_MOST_PITCH : ∃ t, mg "MOST_PITCH" = some (.int 24 t)
  b_lcm : mg "lcm" = some (.builtin "math.lcm")
  k_parting_moves_kw_start_second_state_device : KwOk K mg "parting_moves" ["device", "state", "second", "start"] ["start", "second", "state", "device"] [3, 2, 1, 0]

abbrev F_is_whole := det (fun d : D => [d]) (fun _ => True) (fun d => .bool (isWhole d))
abbrev D_is_whole_ (P : Program) (w : World) (K : PySem.W.Frag) (mg : Str → Option Value) (base : Heap) := Df P w K mg base 1 "is_whole" ["value"] (spP F_is_whole)

abbrev F_is_pair := det (fun d : D => [d]) (fun _ => True) (fun d => .bool (isPair d))
abbrev D_is_pair_ (P : Program) (w : World) (K : PySem.W.Frag) (mg : Str → Option Value) (base : Heap) := Df P w K mg base 1 "is_pair" ["value"] (spP F_is_pair)

abbrev F_catches := det (fun a : Comb × Int => [a.1.d, .int a.2]) (fun a => 0 < a.1.p) (fun a => .bool (caught a.1 a.2))
abbrev D_catches_ (P : Program) (w : World) (K : PySem.W.Frag) (mg : Str → Option Value) (base : Heap) := Df P w K mg base 1 "catches" ["comb", "number"] (spP F_catches)

abbrev F_floor_catch := det (fun a : Comb × Int => [a.1.d, .int a.2]) (fun a => a.1.Ok) (fun a => .int (flo a.1 a.2))
abbrev D_floor_catch_ (P : Program) (w : World) (K : PySem.W.Frag) (mg : Str → Option Value) (base : Heap) := Df P w K mg base 1 "floor_catch" ["comb", "number"] (spP F_floor_catch)

abbrev D_copied_comb_ (P : Program) (w : World) (K : PySem.W.Frag) (mg : Str → Option Value) (base : Heap) := Df P w K mg base 1 "copied_comb" ["comb"] (spW copyF)

abbrev F_teeth_under := det (fun a : List Int × Int => [.list (a.1.map PyData.int), .int a.2]) (fun a => a.1.length ≤ 24) (fun a => .list ((under a.1 a.2).map PyData.int))
abbrev D_teeth_under_ (P : Program) (w : World) (K : PySem.W.Frag) (mg : Str → Option Value) (base : Heap) := Df P w K mg base 1 "teeth_under" ["teeth", "part"] (spP F_teeth_under)

abbrev F_parting_size := det (fun a : Comb × Comb × Int => [.list ((sl a.1).map PyData.int), .list ((sl a.2.1).map PyData.int), .int a.2.2]) (fun a => a.1.Ok ∧ a.2.1.Ok) (fun a => pzD (slk a.1 a.2.2) (slk a.2.1 a.2.2))
abbrev D_parting_size_ (P : Program) (w : World) (K : PySem.W.Frag) (mg : Str → Option Value) (base : Heap) := Df P w K mg base 1 "parting_size" ["ones", "others", "place"] (spP F_parting_size)

abbrev F_parting_rank := det (fun r : List Int => [.list (r.map PyData.int)]) (fun r => r.length ≤ 10) (fun r => rkD r)
abbrev D_parting_rank_ (P : Program) (w : World) (K : PySem.W.Frag) (mg : Str → Option Value) (base : Heap) := Df P w K mg base 1 "parting_rank" ["moves"] (spP F_parting_rank)

abbrev F_pool : List Int → Int → (List D → Prop) → Prop := fun ns i k => 0 ≤ i ∧ i < 100 ∧ ∀ pl, Pk 0 pl → k pl
abbrev D__law_jar_ (P : Program) (w : World) (K : PySem.W.Frag) (mg : Str → Option Value) (base : Heap) := Df P w K mg base 1 "_law_jar" ["script", "at"] (spMk K F_pool)

abbrev F__law_pick := drawF
abbrev D__law_pick_ (P : Program) (w : World) (K : PySem.W.Frag) (mg : Str → Option Value) (base : Heap) := Df P w K mg base 1 "_law_pick" ["jar", "bound"] (spO F__law_pick)

abbrev F__law_under := det (fun a : Comb × Int => [a.1.d, .int a.2]) (fun a => a.1.Ok) (fun a => .int (flo a.1 a.2))
abbrev D__law_under_ (P : Program) (w : World) (K : PySem.W.Frag) (mg : Str → Option Value) (base : Heap) := Df P w K mg base 1 "_law_under" ["comb_here", "spot"] (spP F__law_under)

abbrev F__law_begin := det (fun a : Dv × Sv => [a.1.d, a.2.d]) (fun a => a.1.Ok) (fun a => Sv.d (plc a.1 a.2))
abbrev D__law_begin_ (P : Program) (w : World) (K : PySem.W.Frag) (mg : Str → Option Value) (base : Heap) := Df P w K mg base 1 "_law_begin" ["pair", "stand"] (spP F__law_begin)

abbrev F__law_lists := det (fun a : Nat × Nat => [.int (a.1 : Int), .int (a.2 : Int)]) (fun a => (a.1 = 1 ∨ a.1 = 2) ∧ 1 ≤ a.2 ∧ a.2 ≤ 100) (fun a => .list (lstD (listsL a.1 a.2)))
abbrev D__law_lists_ (P : Program) (w : World) (K : PySem.W.Frag) (mg : Str → Option Value) (base : Heap) := Df P w K mg base 1 "_law_lists" ["many", "size"] (spP F__law_lists)

abbrev F_is_whole_pair := det (fun d : D => [d]) (fun _ => True) (fun d => .bool (isWholePair d))
abbrev D_is_whole_pair_ (P : Program) (w : World) (K : PySem.W.Frag) (mg : Str → Option Value) (base : Heap) := Df P w K mg base 2 "is_whole_pair" ["value"] (spP F_is_whole_pair)

abbrev F_is_pitch := det (fun d : D => [d]) (fun _ => True) (fun d => .bool (isPitch d))
abbrev D_is_pitch_ (P : Program) (w : World) (K : PySem.W.Frag) (mg : Str → Option Value) (base : Heap) := Df P w K mg base 2 "is_pitch" ["value"] (spP F_is_pitch)

abbrev F_are_teeth := det (fun c : Comb => [.list (c.ts.map PyData.int), .int c.p]) Comb.Ok (fun _ => .bool true)
abbrev D_are_teeth_ (P : Program) (w : World) (K : PySem.W.Frag) (mg : Str → Option Value) (base : Heap) := Df P w K mg base 2 "are_teeth" ["value", "pitch"] (spP F_are_teeth)

abbrev F_repeated_teeth := det (fun a : List Int × Int × Int => [.list (a.1.map PyData.int), .int a.2.1, .int a.2.2]) (fun a => a.1.length ≤ 24 ∧ 1 ≤ a.2.1 ∧ a.2.1 ≤ 24 ∧ 0 ≤ a.2.2 ∧ a.2.2 ≤ 24) (fun a => .list ((repT a.1 a.2.1 ((a.2.2.toNat + a.2.1.toNat - 1) / a.2.1.toNat)).map PyData.int))
abbrev D_repeated_teeth_ (P : Program) (w : World) (K : PySem.W.Frag) (mg : Str → Option Value) (base : Heap) := Df P w K mg base 2 "repeated_teeth" ["teeth", "part", "pitch"] (spP F_repeated_teeth)

abbrev F_is_held := det (fun a : Dv × Sv => [a.1.d, .int a.2.1, .int a.2.2]) (fun a => a.1.Ok) (fun a => .bool (held a.1 a.2))
abbrev D_is_held_ (P : Program) (w : World) (K : PySem.W.Frag) (mg : Str → Option Value) (base : Heap) := Df P w K mg base 2 "is_held" ["device", "height", "hand"] (spP F_is_held)

abbrev F_comb_slacks := det (fun c : Comb => [c.d]) Comb.Ok (fun c => .list ((sl c).map PyData.int))
abbrev D_comb_slacks_ (P : Program) (w : World) (K : PySem.W.Frag) (mg : Str → Option Value) (base : Heap) := Df P w K mg base 2 "comb_slacks" ["comb"] (spP F_comb_slacks)

abbrev F_single_partings := det (fun a : Dv × Dv => [slD a.1, slD a.2]) (fun a => a.1.Ok ∧ a.2.Ok) (fun a => .list (lstD ((sglI a.1 a.2).map fun x => [x])))
abbrev D_single_partings_ (P : Program) (w : World) (K : PySem.W.Frag) (mg : Str → Option Value) (base : Heap) := Df P w K mg base 2 "single_partings" ["first", "second"] (spP F_single_partings)

abbrev F_parting_pairs := det (fun a : Comb × Comb × Int × Int => [.list ((sl a.1).map PyData.int), .list ((sl a.2.1).map PyData.int), .int a.2.2.1, .int a.2.2.2]) (fun a => a.1.Ok ∧ a.2.1.Ok ∧ 0 ≤ a.2.2.1 ∧ a.2.2.1 ≤ 1000 ∧ -1 ≤ a.2.2.2 ∧ a.2.2.2 ≤ 1) (fun a => .list (lstD ((prsP a.1 a.2.1 a.2.2.1 a.2.2.2 (Nat.lcm a.1.p.natAbs a.2.1.p.natAbs)).map fun p => [p.1, p.2])))
abbrev D_parting_pairs_ (P : Program) (w : World) (K : PySem.W.Frag) (mg : Str → Option Value) (base : Heap) := Df P w K mg base 2 "parting_pairs" ["ones", "others", "slack", "sign"] (spP F_parting_pairs)

abbrev F__law_comb := poolF 8000000 (fun t : Int => [.int t]) (fun t => 1 ≤ t ∧ t ≤ 24) (fun _ => 100) (fun t d => ∃ cb : Comb, d = cb.d ∧ cb.Ok)
abbrev D__law_comb_ (P : Program) (w : World) (K : PySem.W.Frag) (mg : Str → Option Value) (base : Heap) := Df P w K mg base 2 "_law_comb" ["jar", "most"] (spO F__law_comb)

abbrev F__law_rise := det (fun a : Dv × Sv × Int => [a.1.d, .tuple [.int a.2.1.1, .int (lf a.2.1)], .int a.2.2]) (fun a => a.1.Ok ∧ a.2.2 ≠ 0) (fun a => .tuple [.int (rs a.1 a.2.1 a.2.2), Sv.d (plc a.1 (mv a.1 a.2.1 a.2.2))])
abbrev D__law_rise_ (P : Program) (w : World) (K : PySem.W.Frag) (mg : Str → Option Value) (base : Heap) := Df P w K mg base 2 "_law_rise" ["pair", "start_here", "step"] (spP F__law_rise)

abbrev F__law_stand := poolF 7000000 (fun a : Dv × Int => [a.1.d, .int a.2]) (fun a => a.1.Ok ∧ 1 ≤ a.2 ∧ a.2 ≤ 10 ^ 37) (fun _ => 3) (fun a d => ∃ s : Sv, d = s.d ∧ held a.1 s = true ∧ s.1.natAbs ≤ 10 ^ 38 ∧ s.2.natAbs ≤ 10 ^ 38)
abbrev D__law_stand_ (P : Program) (w : World) (K : PySem.W.Frag) (mg : Str → Option Value) (base : Heap) := Df P w K mg base 2 "_law_stand" ["jar", "pair", "far"] (spO F__law_stand)

abbrev F_check_comb := det (fun c : Comb => [c.d]) Comb.Ok (fun _ => .none)
abbrev D_check_comb_ (P : Program) (w : World) (K : PySem.W.Frag) (mg : Str → Option Value) (base : Heap) := Df P w K mg base 3 "check_comb" ["comb"] (spP F_check_comb)

abbrev F_is_comb := det (fun c : Comb => [c.d]) Comb.Ok (fun _ => .bool true)
abbrev D_is_comb_ (P : Program) (w : World) (K : PySem.W.Frag) (mg : Str → Option Value) (base : Heap) := Df P w K mg base 3 "is_comb" ["value"] (spP F_is_comb)

abbrev F_fits_device := det (fun a : Dv × Sv => [a.1.d, a.2.d]) (fun a => a.1.Ok) (fun a => .bool (held a.1 a.2))
abbrev D_fits_device_ (P : Program) (w : World) (K : PySem.W.Frag) (mg : Str → Option Value) (base : Heap) := Df P w K mg base 3 "fits_device" ["device", "value"] (spP F_fits_device)

abbrev F_device_slacks := det (fun v : Dv => [v.d]) Dv.Ok (fun v => slD v)
abbrev D_device_slacks_ (P : Program) (w : World) (K : PySem.W.Frag) (mg : Str → Option Value) (base : Heap) := Df P w K mg base 3 "device_slacks" ["device"] (spP F_device_slacks)

abbrev F_double_partings := det (fun a : Dv × Dv => [slD a.1, slD a.2]) (fun a => a.1.Ok ∧ a.2.Ok) (fun a => .list (lstD ((dblP a.1 a.2 (Nat.lcm a.1.1.p.natAbs a.2.1.p.natAbs) (Nat.lcm a.1.2.p.natAbs a.2.2.p.natAbs)).map fun p => [p.1, p.2])))
abbrev D_double_partings_ (P : Program) (w : World) (K : PySem.W.Frag) (mg : Str → Option Value) (base : Heap) := Df P w K mg base 3 "double_partings" ["first", "second"] (spP F_double_partings)

abbrev F__law_pair := poolF 7000000 (fun t : Int => [.int t]) (fun t => 1 ≤ t ∧ t ≤ 24) (fun _ => 300) (fun t d => ∃ v : Dv, d = v.d ∧ v.Ok)
abbrev D__law_pair_ (P : Program) (w : World) (K : PySem.W.Frag) (mg : Str → Option Value) (base : Heap) := Df P w K mg base 3 "_law_pair" ["jar", "most"] (spO F__law_pair)

abbrev F__law_parts := det (fun a : ((Dv × Sv) × Dv × Sv) × List Int => [a.1.1.1.d, a.1.2.1.d, Sv.d (plc a.1.1.1 a.1.1.2), Sv.d (plc a.1.2.1 a.1.2.2), .list (a.2.map PyData.int)]) (fun a => a.1.1.1.Ok ∧ a.1.2.1.Ok ∧ ∀ m ∈ a.2, m ≠ 0) (fun a => .int ((prtN a.1.1.1 a.1.2.1 a.1.1.2 a.1.2.2 a.2 : Nat) : Int))
abbrev D__law_parts_ (P : Program) (w : World) (K : PySem.W.Frag) (mg : Str → Option Value) (base : Heap) := Df P w K mg base 3 "_law_parts" ["one", "two", "first", "other", "steps"] (spP F__law_parts)

abbrev F_check_device := det (fun v : Dv => [v.d]) Dv.Ok (fun _ => .none)
abbrev D_check_device_ (P : Program) (w : World) (K : PySem.W.Frag) (mg : Str → Option Value) (base : Heap) := Df P w K mg base 4 "check_device" ["device"] (spP F_check_device)

abbrev F_plain_comb := rel (fun c : Comb => [c.d]) Comb.Ok (fun c d => ∃ b : Comb, d = b.d ∧ b.Ok ∧ (∀ n, caught b n = caught c n) ∧ b.p ≤ c.p ∧ c.p % b.p = 0 ∧ ∀ q, 1 ≤ q → q < b.p → c.p % q = 0 → ¬ Per c q)
abbrev D_plain_comb_ (P : Program) (w : World) (K : PySem.W.Frag) (mg : Str → Option Value) (base : Heap) := Df P w K mg base 4 "plain_comb" ["comb"] (spP F_plain_comb)

abbrev F_check_state := det (fun a : Dv × Sv => [a.1.d, a.2.d]) (fun a => a.1.Ok ∧ held a.1 a.2 = true) (fun a => .none)
abbrev D_check_state_ (P : Program) (w : World) (K : PySem.W.Frag) (mg : Str → Option Value) (base : Heap) := Df P w K mg base 4 "check_state" ["device", "state"] (spP F_check_state)

abbrev F__law_is_least := rel (fun a : ((Dv × Sv) × Dv × Sv) × List Int => [a.1.1.1.d, a.1.2.1.d, Sv.d (plc a.1.1.1 a.1.1.2), Sv.d (plc a.1.2.1 a.1.2.2), .list (a.2.map PyData.int)]) (fun a => a.1.1.1.Ok ∧ a.1.2.1.Ok ∧ (a.2.map sz1).sum ≤ 30 ∧ PartD a.1.1.1 a.1.1.2 a.1.2.1 a.1.2.2 (.list (a.2.map PyData.int))) (fun _ d => d = .bool true)
abbrev D__law_is_least_ (P : Program) (w : World) (K : PySem.W.Frag) (mg : Str → Option Value) (base : Heap) := Df P w K mg base 4 "_law_is_least" ["one", "two", "first", "other", "told"] (spP F__law_is_least)

abbrev F_check_begun := det (fun a : Dv × Sv => [a.1.d, a.2.d]) (fun a => a.1.Ok ∧ held a.1 a.2 = true) (fun _ => .none)
abbrev D_check_begun_ (P : Program) (w : World) (K : PySem.W.Frag) (mg : Str → Option Value) (base : Heap) := Df P w K mg base 5 "check_begun" ["device", "state"] (spP F_check_begun)

abbrev F_shifted_comb := rel (fun a : Comb × Int => [a.1.d, .int a.2]) (fun a => a.1.Ok) (fun a d => ∃ b : Comb, d = b.d ∧ Plain b ∧ ∀ n, caught b n = caught a.1 (n + a.2))
abbrev D_shifted_comb_ (P : Program) (w : World) (K : PySem.W.Frag) (mg : Str → Option Value) (base : Heap) := Df P w K mg base 5 "shifted_comb" ["comb", "distance"] (spP F_shifted_comb)

abbrev F_check_both := det (fun a : (Dv × Sv) × Dv × Sv => [a.1.1.d, a.1.2.d, a.2.1.d, a.2.2.d]) (fun a => (a.1.1.Ok ∧ held a.1.1 a.1.2 = true) ∧ a.2.1.Ok ∧ held a.2.1 a.2.2 = true) (fun _ => .none)
abbrev D_check_both_ (P : Program) (w : World) (K : PySem.W.Frag) (mg : Str → Option Value) (base : Heap) := Df P w K mg base 6 "check_both" ["device", "state", "second", "start"] (spP F_check_both)

abbrev F_shifted_device := rel (fun a : Dv × Sv => [a.1.d, a.2.d]) (fun a => a.1.Ok) (fun a d => ∃ b : Dv, d = b.d ∧ Plain b.1 ∧ Plain b.2 ∧ (∀ n, caught b.1 n = caught a.1.1 (n + a.2.1)) ∧ ∀ n, caught b.2 n = caught a.1.2 (n + (a.2.1 - a.2.2)))
abbrev D_shifted_device_ (P : Program) (w : World) (K : PySem.W.Frag) (mg : Str → Option Value) (base : Heap) := Df P w K mg base 6 "shifted_device" ["device", "state"] (spP F_shifted_device)

abbrev F_are_alike := rel (fun a : (Dv × Sv) × Dv × Sv => [a.1.1.d, a.1.2.d, a.2.1.d, a.2.2.d]) (fun a => (a.1.1.Ok ∧ held a.1.1 a.1.2 = true) ∧ a.2.1.Ok ∧ held a.2.1 a.2.2 = true) (fun a d => ∃ b : Bool, d = .bool b ∧ (b = true ↔ AlkS a.1.1 a.1.2 a.2.1 a.2.2))
abbrev D_are_alike_ (P : Program) (w : World) (K : PySem.W.Frag) (mg : Str → Option Value) (base : Heap) := Df P w K mg base 7 "are_alike" ["device", "state", "second", "start"] (spP F_are_alike)

abbrev F_parting_moves := noF (fun a : (Dv × Sv) × Dv × Sv => [a.1.1.d, a.1.2.d, a.2.1.d, a.2.2.d]) (fun a => (a.1.1.Ok ∧ held a.1.1 a.1.2 = true) ∧ a.2.1.Ok ∧ held a.2.1 a.2.2 = true) (fun a o => PartO a.1.1 a.1.2 a.2.1 a.2.2 o)
abbrev D_parting_moves_ (P : Program) (w : World) (K : PySem.W.Frag) (mg : Str → Option Value) (base : Heap) := Df P w K mg base 7 "parting_moves" ["device", "state", "second", "start"] (spNo F_parting_moves)

abbrev F__law_right := poolF 6000000 (fun t : Int => [.int t, .bool true]) (fun t => 1 ≤ t ∧ t ≤ 24) (fun _ => 700) (fun _ d => d = .bool true)
abbrev D__law_right_ (P : Program) (w : World) (K : PySem.W.Frag) (mg : Str → Option Value) (base : Heap) := Df P w K mg base 8 "_law_right" ["jar", "most", "is_small"] (spO F__law_right)

local macro_rules | `(tactic| walk_at "nz") => `(tactic| try dsimp only [nox_K, blk_K, slotsD, slotsO, wipeD, List.map, List.length_cons, List.length_nil, Nat.reduceAdd, Nat.reduceSub, List.replicate_succ, List.replicate_zero, List.cons_append, List.nil_append, List.set_cons_zero, List.set_cons_succ, isD, isI, isB, isS, rtD, rtN, rtO])
local macro_rules | `(tactic| walk_at "pd") => `(tactic| first
  | ((with_reducible refine ws_seq ?_); walk_at "nz")
  | ((with_reducible refine ws_ret ?_); walk_at "nz")
  | ((with_reducible refine ws_if ?_); walk_at "nz")
  | (with_reducible refine ws_next ?_)
  | ((with_reducible refine ws_app (xs := ?wvar) ?hvar ?_); (case hvar => rfl))
  | (with_reducible refine ws_drop ?_)
  | ((with_reducible refine ws_unpN ?hunp ?_); (case hunp => rfl))
  | ((with_reducible refine ws_set ?_); walk_at "nz")
  | (with_reducible refine wt_and ?_)
  | (with_reducible refine wt_or ?_)
  | (with_reducible refine wt_not ?_)
  | (with_reducible refine wt_T ?_)
  | (with_reducible refine wt_B ?_)
  | (with_reducible refine wt_tru ?_)
  | (with_reducible refine wt_yes ?_)
  | ((with_reducible refine we_isi ?hisi ?_); (case hisi => decide))
  | (with_reducible refine we_andV ?_)
  | (with_reducible refine we_orV ?_)
  | (with_reducible refine we_notV ?_)
  | (with_reducible refine we_if ?_)
  | ((with_reducible refine we_var (w := ?wvar) ?hvar ?_); (case hvar => rfl))
  | (with_reducible refine we_int ?_)
  | (with_reducible refine we_bl ?_)
  | (with_reducible refine we_non ?_)
  | (with_reducible refine we_str ?_)
  | (with_reducible refine we_neg ?_)
  | ((with_reducible refine we_ixS (a := ?sa) (ns := ?sns) ?hS ?hvar ?_); (case hS => assumption); (case hvar => rfl))
  | ((with_reducible refine we_lenS (a := ?sa) (ns := ?sns) ?hS ?hvar ?_); (case hS => assumption); (case hvar => rfl))
  | ((with_reducible refine we_ixP (p := ?pp) ?hvar ?hpp ?_); (case hvar => rfl); (case hpp => assumption))
  | ((with_reducible refine ws_setP (p := ?pp) ?hvar ?hpp ?_); (case hvar => rfl); (case hpp => assumption))
  | ((with_reducible refine we_opV (xs := ?wvar) ?hvar ?_); (case hvar => rfl))
  | (with_reducible refine we_op ?_)
  | ((with_reducible refine we_lenO (xs := ?wvar) ?hvar ?_); (case hvar => rfl))
  | (with_reducible refine we_cb ?_)
  | (with_reducible refine wa_cons ?_)
  | (with_reducible refine wa_nil ?_)
  | (with_reducible refine we_tup ?_)
  | (with_reducible refine cb_lenT ?_)
  | (with_reducible refine cb_lenL ?_)
  | (with_reducible refine cb_max2 ?_)
  | (with_reducible refine cb_min2 ?_)
  | (with_reducible refine cb_abs ?_)
  | (with_reducible refine cb_int ?_)
  | (with_reducible refine cb_intB ?_)
  | (with_reducible refine os_eqI ?_)
  | (with_reducible refine os_neI ?_)
  | (with_reducible refine os_addI ?_)
  | (with_reducible refine os_sub ?_)
  | (with_reducible refine os_lt ?_)
  | (with_reducible refine os_le ?_)
  | (with_reducible refine os_gt ?_)
  | (with_reducible refine os_ge ?_)
  | (with_reducible refine os_t0 ?_)
  | (with_reducible refine os_t1 ?_)
  | (with_reducible refine os_l0 ?_)
  | (with_reducible refine os_l1 ?_)
  | ((with_reducible refine iteV ?iteh ?_); (case iteh => rfl))
  | ((with_reducible refine iteN ?iteh ?_); (case iteh => rfl))
  | ((with_reducible refine And.intro ?hand ?_); (case hand => first | rfl | decide | (simp only [List.length_cons, List.length_nil]; decide)))
  | ((with_reducible refine ⟨?wx, ?wy, ?hex, ?_⟩); (case hex => rfl)))
local macro_rules | `(tactic| walk_at "go") => `(tactic| repeat walk_at "pd")

section
variable {P : Program} {w : World} {K : PySem.W.Frag} {mg : Str → Option Value} {base : Heap}
theorem ok_is_whole (T : Tx K mg) {f : Addr} {fd : FuncData} (F : Here K mg "is_whole" s_is_whole ["value"] f fd) : D_is_whole_ P w K mg base := by
  refine F.df (fgP F.1 sc_is_whole (fun ds k h => ?_) fun cdv B fr s H E hg hr => ⟨_, ((pss_one (ps_ret (pe_and (pe_callB (r := rIsi K) call_isi (by rfl) T.n_isinstance (by decide +kernel) (pa_cons (pv 0) (pa_cons (pe_bltn (v := .ty "int") (u := .type "int") (by rfl) T.n_int (by decide +kernel) rfl) pa_nil))) (pe_one (pe_not (pe_callB (r := rIsi K) call_isi (by rfl) T.n_isinstance (by decide +kernel) (pa_cons (pv 0) (pa_cons (pe_bltn (v := .ty "bool") (u := .type "bool") (by rfl) T.n_bool (by decide +kernel) rfl) pa_nil))))))))), ?_⟩)
  · obtain ⟨a, rfl, _⟩ := h; rfl
  · intro c ds k hc h
    obtain ⟨d, rfl, _, h⟩ := h
    cases d <;> (walk_at "go"; first | exact h | (refine iteT ?_; walk_at "go"; exact h) | (refine iteF ?_; walk_at "go"; exact h))

theorem ok_is_pair (T : Tx K mg) {f : Addr} {fd : FuncData} (F : Here K mg "is_pair" s_is_pair ["value"] f fd) : D_is_pair_ P w K mg base := by
  refine F.df (fgP F.1 sc_is_pair (fun ds k h => ?_) fun cdv B fr s H E hg hr => ⟨_, ((pss_one (ps_ret (pe_and (pe_callB (r := rIsi K) call_isi (by rfl) T.n_isinstance (by decide +kernel) (pa_cons (pv 0) (pa_cons (pe_bltn (v := .ty "tuple") (u := .type "tuple") (by rfl) T.n_tuple (by decide +kernel) rfl) pa_nil))) (pe_one (pe_cmpR (r := rEqU K) (op_eqU hr.units) (pe_callB (r := rLenQ K) call_len_seq (by rfl) T.n_len (by decide +kernel) (pa_cons (pv 0) pa_nil)) pe_int (nomark _))))))), ?_⟩)
  · obtain ⟨a, rfl, _⟩ := h; rfl
  · intro c ds k hc h
    obtain ⟨d, rfl, _, h⟩ := h
    cases d with
    | tuple xs =>
      walk_at "go"
      match xs, h with
      | [], h => exact h
      | [_], h => exact h
      | [_, _], h => exact h
      | a :: b :: c :: r, h =>
        have e : decide (((a :: b :: c :: r).length : Int) = 2) = false := decide_eq_false (by simp only [List.length_cons]; omega)
        show k (.bool (decide (((a :: b :: c :: r).length : Int) = 2)))
        rw [e]
        exact h
    | _ => walk_at "go"; exact h

theorem ok_catches (T : Tx K mg) {f : Addr} {fd : FuncData} (F : Here K mg "catches" s_catches ["comb", "number"] f fd) : D_catches_ P w K mg base := by
  refine F.df (fgP F.1 sc_catches (fun ds k h => ?_) fun cdv B fr s H E hg hr => ⟨_, ((pss_cons (ps_asg (pv 0) (pg_tup (n := 2) rfl (pgs_cons (pg_name (i := 2) sc_catches.nd rfl (.inl rfl)) (pgs_cons (pg_name (i := 3) sc_catches.nd rfl (.inl rfl)) pgs_nil))))
      (pss_one (ps_ret (pe_cmpR (r := rIn K false) op_in_seq (pe_op op_mod (pv 1) (pv 2)) (pv 3) (by rfl)))))), ?_⟩)
  · obtain ⟨a, rfl, _⟩ := h; rfl
  · intro c ds k hc h
    obtain ⟨⟨cb, n⟩, rfl, hp, h⟩ := h
    walk_at "go"
    refine os_mod hp ?_
    walk_at "go"
    exact os_in h


theorem ok_floor_catch (T : Tx K mg) {f : Addr} {fd : FuncData} (F : Here K mg "floor_catch" s_floor_catch ["comb", "number"] f fd) : D_floor_catch_ P w K mg base := by
  refine F.df (fgP F.1 sc_floor_catch (fun ds k h => ?_) fun cdv B fr s H E hg hr => ⟨_, ((pss_cons (ps_asg (pv 0) (pg_tup (n := 2) rfl (pgs_cons (pg_name (i := 2) sc_floor_catch.nd rfl (.inl rfl)) (pgs_cons (pg_name (i := 3) sc_floor_catch.nd rfl (.inl rfl)) pgs_nil))))
      (pss_cons (ps_set (i := 4) sc_floor_catch.nd rfl (.inr rfl) (pe_op op_mod (pv 1) (pv 2)))
      (pss_cons (ps_set (i := 5) sc_floor_catch.nd rfl (.inl rfl) (pe_op op_sub (pv 1) (pv 4)))
      (pss_cons (ps_setLc (i := 6) (own := [("tooth", 7)]) rfl sc_floor_catch.nd rfl rfl (sw_true rfl rfl rfl (by decide +kernel)) (pi_list (pv 3)) (blkOk_by (N := ["comb", "number", "pitch", "teeth", "rest", "start", "lower", "tooth"]) (sc := defScope s_floor_catch) (by decide +kernel)) (fun _ _ _ _ _ => (pg_name (i := 7) sc_floor_catch.nd rfl (Or.inl rfl) (Or.inr rfl))) (fun _ _ _ _ _ => (pts_one (pt_cmpR op_le (pv 7) (pv 4) (nomark _)))) (fun _ _ _ _ _ => (pv 7)))
      (pss_cons (ps_if (pt_truth (pv 6) (by intro _; rfl)) (pss_one (ps_ret (pe_op op_addU (pv 5) (pe_ix (r := rIx K) ix_seq (pv 6) (pe_un un_neg pe_int) (fun _ _ => rfl))))) pss_nil)
      (pss_one (ps_ret (pe_op op_addU (pe_op op_sub (pv 5) (pv 2)) (pe_ix (r := rIx K) ix_seq (pv 3) (pe_un un_neg pe_int) (fun _ _ => rfl))))))))))), ?_⟩)
  · obtain ⟨a, rfl, _⟩ := h; rfl
  · intro c ds k hc h
    obtain ⟨⟨cb, n⟩, rfl, ok, h⟩ := h
    walk_at "go"
    have hp : 0 < cb.p := by have := Comb.Ok.p1 (c := cb) ok; omega
    refine os_mod hp ?_
    walk_at "go"
    refine we_lcL (fun i acc _ => acc = ((cb.ts.take i).filter fun t => decide (t ≤ n % cb.p)).map PyData.int) (cb.ts.map PyData.int) (fun xs q => by cases q) ?_ ?_ ?_
    · walk_at "go"
      rfl
    · intro i x acc pl' hx hJ pin
      obtain ⟨t, ht, rfl⟩ := ints_at hx
      subst hJ
      walk_at "go"
      refine ite2 (fun hb => ?_) (fun hb => ?_)
      · walk_at "go"
        refine ⟨by rw [List.length_map]; exact ts_small ok _ _, ?_⟩
        rw [tfil_yes ht hb, List.map_append]
        rfl
      · rw [tfil_no ht (by simpa using hb)]
    · intro acc pl' hJ
      rw [List.length_map, List.take_length] at hJ
      subst hJ
      have hk : k (.int (flo cb n)) := h
      unfold flo lowT at hk
      generalize List.filter (fun t => decide (t ≤ n % cb.p)) cb.ts = L at hk ⊢
      cases L with
      | nil =>
        rw [if_pos rfl] at hk
        walk_at "go"
        refine os_ix (ix_last (Comb.Ok.ne (c := cb) ok)) ?_
        walk_at "go"
        exact hk
      | cons a r =>
        rw [if_neg (List.cons_ne_nil a r)] at hk
        walk_at "go"
        refine os_ix (ix_last (List.cons_ne_nil a r)) ?_
        walk_at "go"
        exact hk

theorem ok_copied_comb (T : Tx K mg) {f : Addr} {fd : FuncData} (F : Here K mg "copied_comb" s_copied_comb ["comb"] f fd) : D_copied_comb_ P w K mg base := by
  refine F.df (fgW F.1 sc_copied_comb (fun ds k h => ?_) fun cdv B fr s H E hg hr => ⟨_, ((pss_cons (ps_asg (pv 0) (pg_tup (n := 2) rfl (pgs_cons (pg_name (i := 1) sc_copied_comb.nd rfl (.inl rfl)) (pgs_cons (pg_name (i := 2) sc_copied_comb.nd rfl (.inl rfl)) pgs_nil))))
      (pss_one (ps_ret (pe_tup (pa_cons (pv 1) (pa_cons (pe_callTy (r := rListQ K) call_list_of (by rfl) T.n_list (by decide +kernel) (pa_cons (pv 2) pa_nil)) pa_nil))))))), ?_⟩)
  · obtain ⟨a, rfl, _⟩ := h; rfl
  · intro c ds k hc h D' G0 hk
    obtain ⟨cb, rfl, h⟩ := h
    walk_at "nz"
    refine wsk_seq ?_
    walk_at "go"
    intro G σ H hs e
    obtain ⟨v1, a1, a2⟩ := hs.slots 1 _ rfl
    obtain ⟨v2, b1, b2⟩ := hs.slots 2 _ rfl
    have a2' : R G v1 (.int cb.p) := a2
    cases a2'
    obtain ⟨q, us, rfl, d1, d2⟩ := RT.list (.inl (show R G v2 (.list (cb.ts.map PyData.int)) from b2)) hs.sub
    have eus := RA.ints d2
    subst eus
    refine ⟨_, a1, _, b1, q, _, rfl, .inl (SqL.of d1), fun la hla => ⟨by show 2 ≤ sizeLine; decide, fun a ha => ?_⟩⟩
    have n : a ≠ la := fun z => by rw [z, upd_same] at ha; cases ha
    have ha0 : H a = none := by rw [upd_ne n] at ha; exact ha
    refine hk (combP cb a la) (.ref a) _ (h a la n) (fun x o z => ?_) (fun x o z => ?_) fun x o z => ?_
    · have z1 := hs.keep x o (by rw [hc]; simp) z
      exact Ex.new ha _ _ (Ex.new hla _ _ z1)
    · unfold combP at z
      by_cases y : x = a
      · subst y; rw [if_pos rfl] at z; cases z; exact upd_same
      · rw [if_neg y] at z
        by_cases y2 : x = la
        · subst y2; rw [if_pos rfl] at z; cases z; rw [upd_ne y]; exact upd_same
        · rw [if_neg y2] at z; cases z
    · rcases combP_some z with rfl | rfl
      · exact (hs.none_of ha0).2.2.2.2
      · exact (hs.none_of hla).2.2.2.2

theorem ok_teeth_under (T : Tx K mg)  {f : Addr} {fd : FuncData} (F : Here K mg "teeth_under" s_teeth_under ["teeth", "part"] f fd) : D_teeth_under_ P w K mg base := by
  refine F.df (fgP F.1 sc_teeth_under (fun ds k h => ?_) fun cdv B fr s H E hg hr => ⟨_, ((pss_one (ps_ret (pe_lc (own := [("tooth", 2)]) rfl sc_teeth_under.nd (pi_list (pv 0)) (blkOk_by (N := ["teeth", "part", "tooth"]) (sc := defScope s_teeth_under) (by decide +kernel)) (fun _ _ _ _ _ => (pg_name (i := 2) sc_teeth_under.nd rfl (Or.inl rfl) (Or.inr rfl))) (fun _ _ _ _ _ => (pts_one (pt_cmpR op_lt (pv 2) (pv 1) (nomark _)))) (fun _ _ _ _ _ => (pv 2)))))), ?_⟩)
  · obtain ⟨a, rfl, _⟩ := h; rfl
  · intro c ds k hc h
    obtain ⟨⟨ts, part⟩, rfl, len, h⟩ := h
    have len' : ts.length ≤ 24 := len
    have h' : k (.list ((ts.filter fun t => decide (t < part)).map PyData.int)) := h
    walk_at "nz"
    refine ws_ret ?_
    refine we_lcL (fun i acc p' => p' = [] ∧ acc = ((ts.take i).filter (fun t => decide (t < part))).map PyData.int) (ts.map PyData.int) (no_of rfl _) ?_ ?_ ?_
    · exact we_var rfl ⟨rfl, rfl, rfl⟩
    · rintro i x acc p' hx ⟨rfl, rfl⟩ pin
      obtain ⟨t, ht, rfl⟩ := ints_at hx
      have lenA : (((ts.take i).filter (fun t => decide (t < part))).map PyData.int).length < sizeLine := by
        rw [List.length_map]
        exact Nat.lt_of_le_of_lt (Nat.le_trans (List.length_filter_le _ _) (Nat.le_trans (List.length_take_le' _ _) (show _ ≤ 1000 by omega))) (by decide)
      rw [List.take_add_one, ht]
      rw [Option.toList_some, List.filter_append, List.map_append]
      walk_at "nz"
      refine wt_B (we_op (we_var rfl (we_var rfl (os_lt ?_))))
      walk_at "nz"
      refine ite2 (fun hb => ?_) (fun hb => ?_)
      · rw [List.filter_cons_of_pos (p := fun t : Int => decide (t < part)) hb]
        exact we_var rfl ⟨lenA, rfl, rfl⟩
      · rw [List.filter_cons_of_neg (p := fun t : Int => decide (t < part)) hb]
        exact ⟨rfl, (List.append_nil _).symm⟩
    rintro acc p' ⟨rfl, rfl⟩
    rw [List.length_map, List.take_length]
    exact h'

theorem ok_parting_size (T : Tx K mg)  {f : Addr} {fd : FuncData} (F : Here K mg "parting_size" s_parting_size ["ones", "others", "place"] f fd) : D_parting_size_ P w K mg base := by
  refine F.df (fgP F.1 sc_parting_size (fun ds k h => ?_) fun cdv B fr s H E hg hr => ⟨_, ((pss_cons (ps_set (i := 3) sc_parting_size.nd rfl (.inl rfl) (pe_ix (r := rIx K) ix_seq (pv 0) (pe_op op_mod (pv 2) (pe_callB (r := rLenQ K) call_len_seq (by rfl) T.n_len (by decide +kernel) (pa_cons (pv 0) pa_nil))) (fun _ _ => rfl)))
      (pss_cons (ps_set (i := 4) sc_parting_size.nd rfl (.inl rfl) (pe_ix (r := rIx K) ix_seq (pv 1) (pe_op op_mod (pv 2) (pe_callB (r := rLenQ K) call_len_seq (by rfl) T.n_len (by decide +kernel) (pa_cons (pv 1) pa_nil))) (fun _ _ => rfl)))
      (pss_cons (ps_if (pt_cmpR (r := rEqU K) (op_eqU hr.units) (pv 3) (pv 4) (nomark _)) (pss_one (ps_ret pe_non)) pss_nil)
      (pss_one (ps_ret (pe_op op_addU (pe_callB (call_min2 rfl) (by rfl) T.n_min (by decide +kernel) (pa_cons (pv 3) (pa_cons (pv 4) pa_nil))) pe_int))))))), ?_⟩)
  · obtain ⟨a, rfl, _⟩ := h; rfl
  · intro c ds k hc h
    obtain ⟨⟨b, e, n⟩, rfl, ⟨ob, oe⟩, h⟩ := h
    have ob' : b.Ok := ob
    have oe' : e.Ok := oe
    have h' : k (pzD (slk b n) (slk e n)) := h
    walk_at "nz"
    refine ws_seq (ws_set (we_op (we_var rfl (we_op (we_var rfl (we_cb (wa_cons (we_var rfl (wa_nil (cb_lenL ?_))))))))))
    refine os_mod (len_pos ob') ?_
    rw [mod_len ob']
    refine os_ix (sl_at ob' _) ?_
    walk_at "nz"
    refine ws_seq (ws_set (we_op (we_var rfl (we_op (we_var rfl (we_cb (wa_cons (we_var rfl (wa_nil (cb_lenL ?_))))))))))
    refine os_mod (len_pos oe') ?_
    rw [mod_len oe']
    refine os_ix (sl_at oe' _) ?_
    unfold pzD at h'
    obtain ⟨x, hx⟩ : ∃ x, slk b n = x := ⟨_, rfl⟩
    obtain ⟨y, hy⟩ : ∃ y, slk e n = y := ⟨_, rfl⟩
    rw [hx, hy] at h' ⊢
    walk_at "nz"
    refine ws_seq (ws_if (wt_B (we_op (we_var rfl (we_var rfl (os_eqI ?_))))))
    by_cases q : x = y
    · rw [if_pos q] at h'
      refine iteV (decide_eq_true q) ?_
      walk_at "go"
      exact h'
    · rw [if_neg q] at h'
      refine iteN (decide_eq_false q) ?_
      refine ws_next ?_
      walk_at "go"
      exact h'

theorem ok_parting_rank (T : Tx K mg)  {f : Addr} {fd : FuncData} (F : Here K mg "parting_rank" s_parting_rank ["moves"] f fd) : D_parting_rank_ P w K mg base := by
  refine F.df (fgP F.1 sc_parting_rank (fun ds k h => ?_) fun cdv B fr s H E hg hr => ⟨_, ((pss_one (ps_ret (pe_tup (pa_cons (pe_callB (r := rSum K) (cr_sum rfl) (by rfl) T.n_sum (by decide +kernel) (pa_cons (pe_lc (own := [("move", 1)]) rfl sc_parting_rank.nd (pi_list (pv 0)) (blkOk_by (N := ["moves", "move"]) (sc := defScope s_parting_rank) (by decide +kernel)) (fun _ _ _ _ _ => (pg_name (i := 1) sc_parting_rank.nd rfl (Or.inl rfl) (Or.inr rfl))) (fun _ _ _ _ _ => pts_nil) (fun _ _ _ _ _ => (pe_callB call_abs (by rfl) T.n_abs (by decide +kernel) (pa_cons (pv 1) pa_nil)))) pa_nil)) (pa_cons (pv 0) pa_nil)))))), ?_⟩)
  · obtain ⟨a, rfl, _⟩ := h; rfl
  · intro c ds k hc h
    obtain ⟨r, rfl, hl, h⟩ := h
    have hl' : r.length ≤ 10 := hl
    walk_at "nz"
    refine ws_ret (we_tup (wa_cons (we_cb ?_)))
    refine wa_cons ?_
    refine we_lcM r PyData.int (fun m => .int (if m < 0 then -m else m)) (Nat.lt_of_le_of_lt hl' (by decide)) (no_of rfl _) ?_ ?_
    · refine we_var rfl ⟨rfl, ?_⟩
      rw [show (r.map fun m => PyData.int (if m < 0 then -m else m)) = (r.map fun m => if m < 0 then -m else m).map PyData.int by rw [List.map_map]; rfl]
      refine wa_nil (cb_sum ?_)
      refine wa_cons (we_var rfl (wa_nil ⟨by show 2 ≤ sizeLine; decide, ?_⟩))
      exact h
    · intro p1 m hm pin
      walk_at "nz"
      refine we_cb (wa_cons (we_var rfl (wa_nil (cb_abs ?_))))
      exact ⟨congrArg PyData.int (by show ((m.natAbs : Nat) : Int) = if m < 0 then -m else m; omega), rfl⟩

theorem ok__law_jar (T : Tx K mg) {f : Addr} {fd : FuncData} (F : Here K mg "_law_jar" s__law_jar ["script", "at"] f fd) : D__law_jar_ P w K mg base := by
  refine F.df (fgMk F.1 sc__law_jar rfl fun cdv B fr s H E hg hr => ⟨_, ((pss_cons (ps_set (i := 2) sc__law_jar.nd rfl (.inl rfl) (pe_ifExp (pt_cmpR op_lt (pv 1) (pe_callB (r := rLenQ K) call_len_seq (by rfl) T.n_len (by decide +kernel) (pa_cons (pv 0) pa_nil)) (nomark _)) (pe_ix (r := rIx K) ix_seq (pv 0) (pv 1) (fun _ _ => rfl)) pe_int))
      (pss_one (ps_ret (pe_lst (pa_cons (pe_callB (call_max2 rfl) (by rfl) T.n_max (by decide +kernel) (pa_cons pe_int (pa_cons (pe_op op_addU (pe_op op_sub (pe_callB call_abs (by rfl) T.n_abs (by decide +kernel) (pa_cons (pv 2) pa_nil)) (pe_op op_powW pe_int pe_int)) pe_int) pa_nil))) (pa_cons (pe_op op_addU (pe_op op_mod (pe_callTy call_int1 (by rfl) T.n_int (by decide +kernel) (pa_cons (pv 2) pa_nil)) (pe_op op_addU (pe_op op_powW pe_int pe_int) pe_int)) (pe_op op_mulU pe_int (pe_op op_addU (pv 1) pe_int))) (pa_cons pe_int pa_nil)))))))), ?_⟩)
  intro c a ns i k hc hS h
  obtain ⟨i0, i1, h⟩ := h
  have fin : ∀ a b : Int, 0 ≤ a → 0 ≤ b → b < 2 ^ 100 → k [.int a, .int b, .int 0] := fun a b h1 h2 h3 => h _ ⟨a, b, 0, rfl, h1, h2, h3, Int.le_refl _, Int.le_refl _⟩
  walk_at "go"
  walk_at "nz"
  refine ite_we (fun x => ∃ cell : Int, x = .int cell) (fun hb => ?_) (fun hb => ?_) ?_
  · have hlt : i.toNat < ns.length := by have := of_decide_eq_true hb; omega
    walk_at "go"
    refine ⟨ns[i.toNat], ?_, _, rfl, ⟨_, rfl⟩, rfl⟩
    have z := atI_nat (List.getElem?_eq_getElem hlt)
    rw [Int.toNat_of_nonneg i0] at z
    exact z
  · walk_at "go"
    exact ⟨_, rfl, ⟨_, rfl⟩, rfl⟩
  rintro _ ⟨cell, rfl⟩
  walk_at "go"
  refine we_lstO ?_
  walk_at "go"
  refine os_pow (poww (by decide) (by decide) (by decide +kernel) (by decide +kernel)) ?_
  walk_at "go"
  refine os_pow (poww (by decide) (by decide) (by decide +kernel) (by decide +kernel)) ?_
  walk_at "go"
  have N0 : (0 : Int) < 10 ^ (27 : Int).toNat + 103 := by decide +kernel
  have N1 : (10 : Int) ^ (27 : Int).toNat + 103 < 2 ^ 91 := by decide +kernel
  generalize (10 : Int) ^ (27 : Int).toNat + 103 = N at N0 N1
  refine os_mod N0 ?_
  walk_at "go"
  refine os_mulI (mulw 20 20 (by decide) (by decide) (by omega) (by omega) (by decide) (by decide) (by decide)) ?_
  walk_at "go"
  have y0 := Int.emod_nonneg cell (show N ≠ 0 by omega)
  have y1 := Int.emod_lt_of_pos cell N0
  exact fin _ _ (by omega) (by omega) (by omega)

theorem ok__law_pick (T : Tx K mg)  {f : Addr} {fd : FuncData} (F : Here K mg "_law_pick" s__law_pick ["jar", "bound"] f fd) : D__law_pick_ P w K mg base := by
  refine F.df (fgO F.1 sc__law_pick (fun pl ds k h => ?_) fun cdv B fr s H E hg hr => ⟨_, ((pss_cons (ps_if (pt_cmpR op_gt (pe_ix (r := rIx K) ix_seq (pv 0) pe_int (fun _ _ => rfl)) pe_int (nomark _)) (pss_cons (ps_set (i := 2) sc__law_pick.nd rfl (.inl rfl) (pe_op op_mod (pe_callTy call_int1 (by rfl) T.n_int (by decide +kernel) (pa_cons (pe_ix (r := rIx K) ix_seq (pv 0) pe_int (fun _ _ => rfl)) pa_nil)) (pv 1)))
      (pss_cons (ps_asg (pe_op op_fdivW (pe_ix (r := rIx K) ix_seq (pv 0) pe_int (fun _ _ => rfl)) (pv 1)) (pg_sub (pv 0) pe_int set_list))
      (pss_one (ps_ret (pv 2))))) pss_nil)
      (pss_cons (ps_asg (pe_op op_addU (pe_ix (r := rIx K) ix_seq (pv 0) pe_int (fun _ _ => rfl)) pe_int) (pg_sub (pv 0) pe_int set_list))
      (pss_cons (ps_set (i := 3) sc__law_pick.nd rfl (.inl rfl) (pe_op op_mod (pe_callTy call_int1 (by rfl) T.n_int (by decide +kernel) (pa_cons (pe_op op_powW (pe_op op_addU (pe_ix (r := rIx K) ix_seq (pv 0) pe_int (fun _ _ => rfl)) (pe_op op_mulU pe_int (pe_ix (r := rIx K) ix_seq (pv 0) pe_int (fun _ _ => rfl)))) pe_int) pa_nil)) (pe_op op_addU (pe_op op_powW pe_int pe_int) pe_int)))
      (pss_cons (ps_set (i := 3) sc__law_pick.nd rfl (.inl rfl) (pe_op op_mod (pe_callTy call_int1 (by rfl) T.n_int (by decide +kernel) (pa_cons (pe_op op_powW (pe_op op_addU (pv 3) (pe_op op_mulU pe_int (pe_ix (r := rIx K) ix_seq (pv 0) pe_int (fun _ _ => rfl)))) pe_int) pa_nil)) (pe_op op_addU (pe_op op_powW pe_int pe_int) pe_int)))
      (pss_one (ps_ret (pe_op op_mod (pe_callTy call_int1 (by rfl) T.n_int (by decide +kernel) (pa_cons (pe_op op_fdivW (pv 3) pe_int) pa_nil)) (pv 1))))))))), ?_⟩)
  · obtain ⟨a, n, rfl, _⟩ := h; rfl
  · intro c p pl ds k hp h
    obtain ⟨top, n, rfl, ⟨t0, t1⟩, hP, hn, h⟩ := h
    obtain ⟨a, b, e, rfl, a0, b0, b1, e0, e1⟩ := hP
    have pw : (2 : Int) ^ 100 < (2 : Int) ^ 2000 := by decide +kernel
    walk_at "go"
    refine ⟨_, atI_nat (j := 0) rfl, ?_⟩
    walk_at "go"
    refine ite2 (fun hb => ?_) (fun hb => ?_)
    · walk_at "go"
      refine ⟨_, atI_nat (j := 0) rfl, ?_⟩
      walk_at "go"
      refine os_mod t0 ?_
      walk_at "go"
      refine ⟨_, atI_nat (j := 0) rfl, ?_⟩
      walk_at "go"
      refine os_fdiv (divw a t0 t1) ?_
      walk_at "go"
      refine ⟨0, rfl, ?_⟩
      walk_at "go"
      exact h _ _ ⟨_, rfl, Int.emod_nonneg _ (by omega), Int.emod_lt_of_pos _ t0⟩ ⟨a / top, b, e, rfl, Int.ediv_nonneg a0 (by omega), b0, b1, e0, by show e ≤ ((n + 1 : Nat) : Int); omega⟩
    · walk_at "go"
      refine ⟨_, atI_nat (j := 2) rfl, ?_⟩
      walk_at "go"
      refine ⟨2, rfl, ?_⟩
      walk_at "go"
      refine ⟨_, atI_nat (j := 1) rfl, ?_⟩
      walk_at "go"
      refine ⟨_, atI_nat (j := 2) rfl, ?_⟩
      walk_at "go"
      refine os_mulI (mulw 20 60 (by decide) (by decide) (by omega) (by omega) (by decide) (by decide) (by decide)) ?_
      walk_at "go"
      have x0 : 0 ≤ b + 611953 * (e + 1) := by omega
      have x1 : b + 611953 * (e + 1) < 2 ^ 200 := by omega
      generalize b + 611953 * (e + 1) = x at x0 x1
      refine os_pow (poww (by decide) (by decide) (by have := pow200; omega) (by have := pow200; omega)) ?_
      walk_at "go"
      refine os_pow (poww (by decide) (by decide) (by decide +kernel) (by decide +kernel)) ?_
      walk_at "go"
      have M0 : (0 : Int) < 10 ^ (39 : Int).toNat + 3 := by decide +kernel
      have M1 : (10 : Int) ^ (39 : Int).toNat + 3 < 2 ^ 150 := by decide +kernel
      generalize (10 : Int) ^ (39 : Int).toNat + 3 = M at M0 M1
      refine os_mod M0 ?_
      walk_at "go"
      have y0 := Int.emod_nonneg (x ^ (3 : Int).toNat) (show M ≠ 0 by omega)
      have y1 := Int.emod_lt_of_pos (x ^ (3 : Int).toNat) M0
      generalize x ^ (3 : Int).toNat % M = y at y0 y1
      refine ⟨_, atI_nat (j := 2) rfl, ?_⟩
      walk_at "go"
      refine os_mulI (mulw 30 60 (by decide) (by decide) (by omega) (by omega) (by decide) (by decide) (by decide)) ?_
      walk_at "go"
      have z0 : 0 ≤ y + 86028121 * (e + 1) := by omega
      have z1 : y + 86028121 * (e + 1) < 2 ^ 200 := by omega
      generalize y + 86028121 * (e + 1) = z at z0 z1
      refine os_pow (poww (by decide) (by decide) (by have := pow200; omega) (by have := pow200; omega)) ?_
      walk_at "go"
      refine os_pow (poww (by decide) (by decide) (by decide +kernel) (by decide +kernel)) ?_
      walk_at "go"
      have N0 : (0 : Int) < 10 ^ (42 : Int).toNat + 63 := by decide +kernel
      generalize (10 : Int) ^ (42 : Int).toNat + 63 = N at N0
      refine os_mod N0 ?_
      walk_at "go"
      refine os_fdiv (divw _ (by decide) (by decide +kernel)) ?_
      walk_at "go"
      refine os_mod t0 ?_
      walk_at "go"
      exact h _ _ ⟨_, rfl, Int.emod_nonneg _ (by omega), Int.emod_lt_of_pos _ t0⟩ ⟨a, b, e + 1, rfl, a0, b0, b1, by omega, by show e + 1 ≤ ((n + 1 : Nat) : Int); omega⟩

theorem ok__law_under (T : Tx K mg)  {f : Addr} {fd : FuncData} (F : Here K mg "_law_under" s__law_under ["comb_here", "spot"] f fd) : D__law_under_ P w K mg base := by
  refine F.df (fgP F.1 sc__law_under (fun ds k h => ?_) fun cdv B fr s H E hg hr => ⟨_, ((pss_cons (ps_set (i := 2) sc__law_under.nd rfl (.inr rfl) (pe_op op_mod (pe_callTy call_int1 (by rfl) T.n_int (by decide +kernel) (pa_cons (pv 1) pa_nil)) (pe_ix (r := rIx K) ix_seq (pv 0) pe_int (fun _ _ => rfl))))
      (pss_cons (ps_setLc (i := 3) (own := [("tooth", 4)]) rfl sc__law_under.nd rfl rfl (sw_true rfl rfl rfl (by decide +kernel)) (pi_list (pe_ix (r := rIx K) ix_seq (pv 0) pe_int (fun _ _ => rfl))) (blkOk_by (N := ["comb_here", "spot", "rest", "below", "tooth"]) (sc := defScope s__law_under) (by decide +kernel)) (fun _ _ _ _ _ => (pg_name (i := 4) sc__law_under.nd rfl (Or.inl rfl) (Or.inr rfl))) (fun _ _ _ _ _ => (pts_one (pt_cmpR op_le (pv 4) (pv 2) (nomark _)))) (fun _ _ _ _ _ => (pv 4)))
      (pss_one (ps_ret (pe_op op_addU (pe_op op_sub (pv 1) (pv 2)) (pe_ifExp (pt_cmpR (r := rNeU K) (op_neU hr.units) (pv 3) (pe_lst pa_nil) (nomark _)) (pe_ix (r := rIx K) ix_seq (pv 3) (pe_un un_neg pe_int) (fun _ _ => rfl)) (pe_op op_sub (pe_ix (r := rIx K) ix_seq (pe_ix (r := rIx K) ix_seq (pv 0) pe_int (fun _ _ => rfl)) (pe_un un_neg pe_int) (fun _ _ => rfl)) (pe_ix (r := rIx K) ix_seq (pv 0) pe_int (fun _ _ => rfl)))))))))), ?_⟩)
  · obtain ⟨a, rfl, _⟩ := h; rfl
  · intro c ds k hc h
    obtain ⟨⟨cb, n⟩, rfl, ok, h⟩ := h
    walk_at "go"
    have hp : 0 < cb.p := by have := Comb.Ok.p1 (c := cb) ok; omega
    refine os_mod hp ?_
    walk_at "go"
    refine we_lcL (fun i acc _ => acc = ((cb.ts.take i).filter fun t => decide (t ≤ n % cb.p)).map PyData.int) (cb.ts.map PyData.int) (fun xs q => by cases q) ?_ ?_ ?_
    · walk_at "go"
      rfl
    · intro i x acc pl' hx hJ pin
      obtain ⟨t, ht, rfl⟩ := ints_at hx
      subst hJ
      walk_at "go"
      refine ite2 (fun hb => ?_) (fun hb => ?_)
      · walk_at "go"
        refine ⟨by rw [List.length_map]; exact ts_small ok _ _, ?_⟩
        rw [tfil_yes ht hb, List.map_append]
        rfl
      · rw [tfil_no ht (by simpa using hb)]
    · intro acc pl' hJ
      rw [List.length_map, List.take_length] at hJ
      subst hJ
      have tok : okD 20 (.list ((cb.ts.filter fun t => decide (t ≤ n % cb.p)).map PyData.int)) := okD_ints fun t ht => by
        have h1 := Comb.Ok.low (c := cb) ok t (List.mem_filter.mp ht).1
        have h2 := Comb.Ok.high (c := cb) ok t (List.mem_filter.mp ht).1
        have h3 := Comb.Ok.p24 (c := cb) ok
        exact small24 (by omega) (by omega)
      have hk : k (.int (flo cb n)) := h
      unfold flo lowT at hk
      generalize List.filter (fun t => decide (t ≤ n % cb.p)) cb.ts = L at hk tok ⊢
      walk_at "go"
      refine we_lst ?_
      walk_at "go"
      refine os_neNil tok ?_
      walk_at "nz"
      cases L with
      | nil =>
        rw [if_pos rfl] at hk
        refine iteN rfl ?_
        walk_at "go"
        refine os_ix (ix_last (Comb.Ok.ne (c := cb) ok)) ?_
        walk_at "go"
        rw [show n - n % cb.p + (cb.ts.getLastD 0 - cb.p) = n - n % cb.p - cb.p + cb.ts.getLastD 0 by omega]
        exact hk
      | cons a r =>
        rw [if_neg (List.cons_ne_nil a r)] at hk
        refine iteV rfl ?_
        walk_at "go"
        refine os_ix (ix_last (List.cons_ne_nil a r)) ?_
        walk_at "go"
        exact hk

theorem ok__law_begin (T : Tx K mg)  {f : Addr} {fd : FuncData} (F : Here K mg "_law_begin" s__law_begin ["pair", "stand"] f fd) : D__law_begin_ P w K mg base := by
  refine F.df (fgP F.1 sc__law_begin (fun ds k h => ?_) fun cdv B fr s H E hg hr => ⟨_, ((pss_one (ps_ret (pe_tup (pa_cons (pe_op op_mod (pe_callTy call_int1 (by rfl) T.n_int (by decide +kernel) (pa_cons (pe_ix (r := rIx K) ix_seq (pv 1) pe_int (fun _ _ => rfl)) pa_nil)) (pe_ix (r := rIx K) ix_seq (pe_ix (r := rIx K) ix_seq (pv 0) pe_int (fun _ _ => rfl)) pe_int (fun _ _ => rfl))) (pa_cons (pe_op op_mod (pe_callTy call_int1 (by rfl) T.n_int (by decide +kernel) (pa_cons (pe_op op_sub (pe_ix (r := rIx K) ix_seq (pv 1) pe_int (fun _ _ => rfl)) (pe_ix (r := rIx K) ix_seq (pv 1) pe_int (fun _ _ => rfl))) pa_nil)) (pe_ix (r := rIx K) ix_seq (pe_ix (r := rIx K) ix_seq (pv 0) pe_int (fun _ _ => rfl)) pe_int (fun _ _ => rfl))) pa_nil)))))), ?_⟩)
  · obtain ⟨a, rfl, _⟩ := h; rfl
  · intro c ds k hc h
    obtain ⟨⟨v, s⟩, rfl, ok, h⟩ := h
    have ok' : v.Ok := ok
    have p1 := ok'.1.p1
    have q1 := ok'.2.p1
    walk_at "nz"
    refine ws_ret (we_tup (wa_cons (we_op (we_cb (wa_cons (we_op (we_var rfl (we_int (os_t0 (wa_nil (cb_int ?_)))))))))))
    refine we_op (we_op (we_var rfl (we_int (os_t0 (we_int (os_t0 (os_mod (show 0 < v.1.p by omega) ?_)))))))
    refine wa_cons (we_op (we_cb (wa_cons (we_op (we_op (we_var rfl (we_int (os_t0 ?_))))))))
    refine we_op (we_var rfl (we_int (os_t1 (os_sub (wa_nil (cb_int ?_))))))
    refine we_op (we_op (we_var rfl (we_int (os_t1 (we_int (os_t0 (os_mod (show 0 < v.2.p by omega) ?_)))))))
    exact wa_nil ⟨by show 2 ≤ sizeLine; decide, h⟩

theorem ok__law_lists (T : Tx K mg)  {f : Addr} {fd : FuncData} (F : Here K mg "_law_lists" s__law_lists ["many", "size"] f fd) : D__law_lists_ P w K mg base := by
  refine F.df (fgP F.1 sc__law_lists (fun ds k h => ?_) fun cdv B fr s H E hg hr => ⟨_, ((pss_cons (ps_if (pt_cmpR (r := rEqU K) (op_eqU hr.units) (pv 0) pe_int (nomark _)) (pss_one (ps_ret (pe_lst (pa_cons (pe_lst (pa_cons (pe_op op_sub pe_int (pv 1)) pa_nil)) (pa_cons (pe_lst (pa_cons (pv 1) pa_nil)) pa_nil))))) pss_nil)
      (pss_cons (ps_set (i := 2) sc__law_lists.nd rfl (.inl rfl) (pe_lst pa_nil))
      (pss_cons (ps_for PassesOwn.never rfl (pi_range2 (by rfl) T.n_range (pa_cons pe_int (pa_cons (pv 1) pa_nil))) (pg_name (i := 3) sc__law_lists.nd rfl (.inl rfl)) (pss_one (ps_set (i := 2) sc__law_lists.nd rfl (.inl rfl) (pe_op op_addU (pv 2) (pe_lst (pa_cons (pe_lst (pa_cons (pv 3) (pa_cons (pe_op op_sub (pv 1) (pv 3)) pa_nil))) (pa_cons (pe_lst (pa_cons (pv 3) (pa_cons (pe_op op_sub (pv 3) (pv 1)) pa_nil))) (pa_cons (pe_lst (pa_cons (pe_op op_sub pe_int (pv 3)) (pa_cons (pe_op op_sub (pv 1) (pv 3)) pa_nil))) (pa_cons (pe_lst (pa_cons (pe_op op_sub pe_int (pv 3)) (pa_cons (pe_op op_sub (pv 3) (pv 1)) pa_nil))) pa_nil)))))))))
      (pss_one (ps_ret (pv 2))))))), ?_⟩)
  · obtain ⟨a, rfl, _⟩ := h; rfl
  · intro c ds k hc h
    obtain ⟨⟨many, size⟩, rfl, ⟨hm, s1, s2⟩, h⟩ := h
    have hm' : many = 1 ∨ many = 2 := hm
    have s1' : 1 ≤ size := s1
    have s2' : size ≤ 100 := s2
    have h' : k (.list (lstD (listsL many size))) := h
    unfold listsL at h'
    walk_at "nz"
    refine ws_seq (ws_if (wt_B (we_op (we_var rfl (we_int (os_eqI ?_))))))
    walk_at "nz"
    by_cases z : many = 1
    · rw [if_pos z] at h'
      refine iteV (decide_eq_true (by omega)) ?_
      refine ws_ret (we_lst ?_)
      refine wa_cons (we_lst (wa_cons (we_op (we_int (we_var rfl (os_sub (wa_nil ⟨by show 1 ≤ sizeLine; decide, ?_⟩)))))))
      refine wa_cons (we_lst (wa_cons (we_var rfl (wa_nil ⟨by show 1 ≤ sizeLine; decide, ?_⟩))))
      exact wa_nil ⟨by show 2 ≤ sizeLine; decide, h'⟩
    rw [if_neg z] at h'
    refine iteN (decide_eq_false (by omega)) ?_
    refine ws_next ?_
    walk_at "nz"
    refine ws_seq (ws_set (we_lst (wa_nil ⟨by show 0 ≤ sizeLine; decide, ?_⟩)))
    walk_at "nz"
    refine ws_seq ?_
    refine ws_forR2 (fun i ds' pl' => ∃ b3 : Option W, ds' = [some (.d (.int (many : Int))), some (.d (.int (size : Int))), some (.d (.list (lstD (lists2 size i)))), b3] ∧ pl' = []) 1 (size : Int) ?_ ?_ ?_
    · exact wa_cons (we_int (wa_cons (we_var rfl (wa_nil ⟨rfl, by omega, _, rfl, rfl⟩))))
    · rintro i ds' pl' hi ⟨b3, rfl, rfl⟩
      have ll : (lstD (lists2 size i)).length ≤ 400 := by unfold lstD; rw [List.length_map, lists2_len]; omega
      obtain ⟨z9, hz9⟩ : ∃ y : Int, (size : Int) = y := ⟨_, rfl⟩
      obtain ⟨i9, hi9⟩ : ∃ y : Int, (i : Int) + 1 = y := ⟨_, rfl⟩
      have es : lstD (lists2 z9 (i + 1)) = lstD (lists2 z9 i) ++ [.list [.int i9, .int (z9 - i9)], .list [.int i9, .int (i9 - z9)], .list [.int (0 - i9), .int (z9 - i9)], .list [.int (0 - i9), .int (i9 - z9)]] := by
        rw [← hi9]
        conv => lhs; unfold lists2
        unfold lstD
        rw [List.map_append]
        rfl
      rw [hz9] at ll ⊢
      rw [show 1 + (i : Int) = i9 by omega, es]
      walk_at "nz"
      refine ws_set (we_op (we_var rfl (we_lst ?_)))
      refine wa_cons (we_lst (wa_cons (we_var rfl (wa_cons (we_op (we_var rfl (we_var rfl (os_sub (wa_nil ⟨by show 2 ≤ sizeLine; decide, ?_⟩)))))))))
      refine wa_cons (we_lst (wa_cons (we_var rfl (wa_cons (we_op (we_var rfl (we_var rfl (os_sub (wa_nil ⟨by show 2 ≤ sizeLine; decide, ?_⟩)))))))))
      refine wa_cons (we_lst (wa_cons (we_op (we_int (we_var rfl (os_sub (wa_cons (we_op (we_var rfl (we_var rfl (os_sub (wa_nil ⟨by show 2 ≤ sizeLine; decide, ?_⟩))))))))))))
      refine wa_cons (we_lst (wa_cons (we_op (we_int (we_var rfl (os_sub (wa_cons (we_op (we_var rfl (we_var rfl (os_sub (wa_nil ⟨by show 2 ≤ sizeLine; decide, ?_⟩))))))))))))
      refine wa_nil ⟨by show 4 ≤ sizeLine; decide, os_addL ?_ ?_⟩
      · exact Nat.le_trans (show _ ≤ 1000 by show (lstD (lists2 z9 i)).length + 4 ≤ 1000; omega) (by decide)
      · exact ⟨_, rfl, rfl⟩
    · rintro ds' pl' ⟨b3, rfl, rfl⟩
      rw [show ((size : Int) - 1).toNat = size - 1 by omega]
      walk_at "nz"
      exact ws_ret (we_var rfl h')

theorem ok_is_whole_pair (T : Tx K mg) (D_is_pair : D_is_pair_ P w K mg base) (D_is_whole : D_is_whole_ P w K mg base) {f : Addr} {fd : FuncData} (F : Here K mg "is_whole_pair" s_is_whole_pair ["value"] f fd) : D_is_whole_pair_ P w K mg base := by
  refine F.df (fgP F.1 sc_is_whole_pair (fun ds k h => ?_) fun cdv B fr s H E hg hr => ⟨_, ((pss_one (ps_ret (pe_and (pe_callD D_is_pair hg (hr.mono (by decide)) (by rfl) (pa_cons (pv 0) pa_nil)) (pe_and (pe_callD D_is_whole hg (hr.mono (by decide)) (by rfl) (pa_cons (pe_ix (r := rIx K) ix_seq (pv 0) pe_int (fun _ _ => rfl)) pa_nil)) (pe_one (pe_callD D_is_whole hg (hr.mono (by decide)) (by rfl) (pa_cons (pe_ix (r := rIx K) ix_seq (pv 0) pe_int (fun _ _ => rfl)) pa_nil)))))))), ?_⟩)
  · obtain ⟨a, rfl, _⟩ := h; rfl
  · intro c ds k hc h
    obtain ⟨d, rfl, _, h⟩ := h
    walk_at "go"
    refine we_det d ?_
    walk_at "go"
    by_cases hp : isPair d = true
    · match d, hp, h with
      | .tuple [a, b], hp, h =>
        walk_at "go"
        refine we_det a ?_
        walk_at "go"
        cases a with
        | int i =>
          walk_at "go"
          refine we_det b ?_
          walk_at "go"
          cases b <;> exact h
        | _ => walk_at "go"; exact h
    · have e : isPair d = false := by simpa using hp
      have e2 : isWholePair d = false := by
        unfold isPair at e
        unfold isWholePair
        split at e
        · cases e
        · rename_i z
          split
          · rename_i a b
            exact absurd rfl (z (.int a) (.int b))
          · rfl
      rw [e]
      walk_at "go"
      have h' : k (.bool (isWholePair d)) := h
      rw [e2] at h'
      exact h'

theorem ok_is_pitch (T : Tx K mg) (D_is_whole : D_is_whole_ P w K mg base) {f : Addr} {fd : FuncData} (F : Here K mg "is_pitch" s_is_pitch ["value"] f fd) : D_is_pitch_ P w K mg base := by
  refine F.df (fgP F.1 sc_is_pitch (fun ds k h => ?_) fun cdv B fr s H E hg hr => ⟨_, ((pss_one (ps_ret (pe_and (pe_callD D_is_whole hg (hr.mono (by decide)) (by rfl) (pa_cons (pv 0) pa_nil)) (pe_one (pe_chain op_le op_le pe_int (pv 0) (pe_glob (v := .int 24) (by rfl) T.c_MOST_PITCH.choose_spec ⟨_, rfl⟩))))))), ?_⟩)
  · obtain ⟨a, rfl, _⟩ := h; rfl
  · intro c ds k hc h
    obtain ⟨d, rfl, _, h⟩ := h
    walk_at "go"
    refine we_det d ?_
    walk_at "go"
    cases d with
    | int i =>
      walk_at "go"
      refine we_chain (a := 1) (b := i) (c' := 24) ?_ ?_ ?_ ?_
      · walk_at "go"; rfl
      · walk_at "go"; rfl
      · walk_at "go"; rfl
      · have e : (decide ((1 : Int) ≤ i) && decide (i ≤ 24)) = isPitch (.int i) := by
          unfold isPitch
          by_cases h1 : (1 : Int) ≤ i <;> by_cases h2 : i ≤ 24 <;> simp [h1, h2]
        rw [e]
        exact h
    | _ => walk_at "go"; exact h

theorem ok_are_teeth (T : Tx K mg) (D_is_whole : D_is_whole_ P w K mg base) {f : Addr} {fd : FuncData} (F : Here K mg "are_teeth" s_are_teeth ["value", "pitch"] f fd) : D_are_teeth_ P w K mg base := by
  refine F.df (fgP F.1 sc_are_teeth (fun ds k h => ?_) fun cdv B fr s H E hg hr => ⟨_, ((pss_cons (ps_if (PW.pt (pw_or (pt_not (pt_val (pe_callB (r := rIsi K) call_isi (by rfl) T.n_isinstance (by decide +kernel) (pa_cons (pv 0) (pa_cons (pe_bltn (v := .ty "list") (u := .type "list") (by rfl) T.n_list (by decide +kernel) rfl) pa_nil))))) (pw_or1 (pt_cmpR (r := rEqU K) (op_eqU hr.units) (pe_callB (r := rLenQ K) call_len_seq (by rfl) T.n_len (by decide +kernel) (pa_cons (pv 0) pa_nil)) pe_int (nomark _))))) (pss_one (ps_ret pe_bl)) pss_nil)
      (pss_cons (ps_if (pt_not (pt_val (pe_callB (r := rAll K) (cr_all rfl) (by rfl) T.n_all (by decide +kernel) (pa_cons (pe_lc (own := [("tooth", 4)]) rfl sc_are_teeth.nd (pi_list (pv 0)) (blkOk_by (N := ["value", "pitch", "low", "high", "tooth"]) (sc := defScope s_are_teeth) (by decide +kernel)) (fun _ _ _ _ _ => (pg_name (i := 4) sc_are_teeth.nd rfl (Or.inl rfl) (Or.inr rfl))) (fun _ _ _ _ _ => pts_nil) (fun _ _ _ _ _ => (pe_callD D_is_whole hg (hr.mono (by decide)) (by rfl) (pa_cons (pv 4) pa_nil)))) pa_nil)))) (pss_one (ps_ret pe_bl)) pss_nil)
      (pss_cons (ps_if (PW.pt (pw_or (pt_cmpR op_lt (pe_ix (r := rIx K) ix_seq (pv 0) pe_int (fun _ _ => rfl)) pe_int (nomark _)) (pw_or1 (pt_cmpR op_ge (pe_ix (r := rIx K) ix_seq (pv 0) (pe_un un_neg pe_int) (fun _ _ => rfl)) (pv 1) (nomark _))))) (pss_one (ps_ret pe_bl)) pss_nil)
      (pss_one (ps_ret (pe_callB (r := rAll K) (cr_all rfl) (by rfl) T.n_all (by decide +kernel) (pa_cons (pe_lc (g := (gTup K 2 (gCons (gName 2) (gCons (gName 3) gNil)))) (own := [("low", 2), ("high", 3)]) rfl sc_are_teeth.nd (pi_zip (by rfl) T.n_zip (pa_cons (pv 0) (pa_cons (pe_slice (r := rSlL K) sl_list (pv 0) (po_some pe_int) po_none) pa_nil))) (blkOk_by (N := ["value", "pitch", "low", "high", "tooth"]) (sc := defScope s_are_teeth) (by decide +kernel)) (fun _ _ _ _ _ => (pg_tup (n := 2) rfl (pgs_cons (pg_name (i := 2) sc_are_teeth.nd rfl (Or.inl rfl) (Or.inr rfl)) (pgs_cons (pg_name (i := 3) sc_are_teeth.nd rfl (Or.inl rfl) (Or.inr rfl)) pgs_nil)))) (fun _ _ _ _ _ => pts_nil) (fun _ _ _ _ _ => (pe_cmpR op_lt (pv 2) (pv 3) (nomark _)))) pa_nil)))))))), ?_⟩)
  · obtain ⟨a, rfl, _⟩ := h; rfl
  · intro c ds k hc h
    obtain ⟨cb, rfl, ok, h⟩ := h
    walk_at "go"
    have hne := Comb.Ok.ne ok
    have hlen : decide (((cb.ts.map PyData.int).length : Int) = 0) = false := decide_eq_false (by
      rw [List.length_map]
      have := List.length_pos_iff.mpr hne
      omega)
    rw [hlen]
    walk_at "go"
    refine we_lcL (fun i acc _ => acc = (List.replicate i true).map PyData.bool ∧ i ≤ cb.ts.length) (cb.ts.map PyData.int) (fun xs q => by cases q) ?_ ?_ ?_
    · walk_at "go"
      exact Nat.zero_le _
    · intro i x acc pl' hx hJ pin
      obtain ⟨t, ht, rfl⟩ := ints_at hx
      obtain ⟨rfl, hi⟩ := hJ
      have hlt := (List.getElem?_eq_some_iff.mp ht).1
      walk_at "go"
      refine we_det (.int t) ?_
      walk_at "go"
      refine ⟨?_, ?_, hlt⟩
      · rw [List.length_map, List.length_replicate]
        exact Nat.lt_of_le_of_lt (Nat.le_trans hi ok.len) (by decide)
      · rw [List.replicate_succ', List.map_append]
        rfl
    · intro acc pl' hJ
      obtain ⟨rfl, _⟩ := hJ
      walk_at "go"
      refine cb_all ?_
      have e : (List.replicate (cb.ts.map PyData.int).length true).all id = true := by simp
      rw [e]
      walk_at "go"
      obtain ⟨t0, r0, ht0⟩ : ∃ t r, cb.ts = t :: r := by
        cases hq : cb.ts with
        | nil => exact absurd hq hne
        | cons a r => exact ⟨a, r, rfl⟩
      refine os_ln (n := 0) (x := .int t0) (by rw [ht0]; rfl) ?_
      walk_at "go"
      have e0 : decide (t0 < 0) = false := decide_eq_false (by have := ok.low t0 (by rw [ht0]; exact List.mem_cons_self); omega)
      rw [e0]
      walk_at "go"
      refine os_ix (ix_last hne) ?_
      walk_at "go"
      have e1 : decide (cb.p ≤ cb.ts.getLastD 0) = false := decide_eq_false (by have := ok.high _ (last_mem hne); omega)
      rw [e1]
      walk_at "go"
      refine we_lcZ (fun i acc _ => acc = (List.replicate i true).map PyData.bool ∧ i ≤ cb.ts.length) (cb.ts.map PyData.int) (cb.ts.tail.map PyData.int) (by rw [List.length_map, List.length_map, List.length_tail]; omega) (fun xs => ⟨fun q => (by cases q), fun q => (by cases q)⟩) ?_ ?_ ?_
      · walk_at "go"
        refine we_slice ?_
        walk_at "go"
        refine ⟨_, rfl, ?_⟩
        refine wo_some ?_
        walk_at "go"
        refine wo_none ?_
        walk_at "go"
        refine ⟨?_, rfl, Nat.zero_le _⟩
        rw [cut_tail]
      · intro i x y acc pl' hx hy hJ pin
        obtain ⟨tx, htx, rfl⟩ := ints_at hx
        obtain ⟨ty, hty, rfl⟩ := ints_at hy
        obtain ⟨rfl, hi⟩ := hJ
        have hlt := (List.getElem?_eq_some_iff.mp htx).1
        walk_at "go"
        have e2 : decide (tx < ty) = true := decide_eq_true (asc_next ok.up htx (by rw [← List.drop_one, List.getElem?_drop, Nat.add_comm] at hty; exact hty))
        refine ⟨?_, ?_, hlt⟩
        · rw [List.length_map, List.length_replicate]
          exact Nat.lt_of_le_of_lt (Nat.le_trans hi ok.len) (by decide)
        · rw [List.replicate_succ', List.map_append, e2]
          rfl
      · intro acc pl' hJ
        obtain ⟨rfl, _⟩ := hJ
        walk_at "go"
        refine cb_all ?_
        have e3 : (List.replicate (cb.ts.tail.map PyData.int).length true).all id = true := by simp
        rw [e3]
        exact h

theorem ok_repeated_teeth (T : Tx K mg) (D_teeth_under : D_teeth_under_ P w K mg base) {f : Addr} {fd : FuncData} (F : Here K mg "repeated_teeth" s_repeated_teeth ["teeth", "part", "pitch"] f fd) : D_repeated_teeth_ P w K mg base := by
  refine F.df (fgP F.1 sc_repeated_teeth (fun ds k h => ?_) fun cdv B fr s H E hg hr => ⟨_, ((pss_cons (ps_set (i := 3) sc_repeated_teeth.nd rfl (.inr rfl) (pe_callD D_teeth_under hg (hr.mono (by decide)) (by rfl) (pa_cons (pv 0) (pa_cons (pv 1) pa_nil))))
      (pss_one (ps_ret (pe_lc2 (wi1 := iList K (tVar 3)) (g := (gName 4)) (g1 := (gName 5)) (vs1 := [5]) (own := [("start", 4), ("tooth", 5)]) rfl sc_repeated_teeth.nd (pi_range3 (by rfl) T.n_range (pa_cons pe_int (pa_cons (pv 2) (pa_cons (pv 1) pa_nil)))) (blkOk_by (N := ["teeth", "part", "pitch", "first", "start", "tooth"]) (sc := defScope s_repeated_teeth) (by decide +kernel)) (by decide) (fun _ _ _ _ _ => (pg_name (i := 4) sc_repeated_teeth.nd rfl (Or.inl rfl) (Or.inr rfl))) (fun _ _ _ _ _ => pts_nil) (fun _ _ _ _ _ => (pi_list (pv 3))) (fun _ _ _ _ _ => (pg_name (i := 5) sc_repeated_teeth.nd rfl (Or.inl rfl) (Or.inr rfl))) (fun _ _ _ _ _ => pts_nil) (fun _ _ _ _ _ => (pe_op op_addU (pv 4) (pv 5)))))))), ?_⟩)
  · obtain ⟨a, rfl, _⟩ := h; rfl
  · intro c ds k hc h
    obtain ⟨⟨ts, q, p⟩, rfl, ⟨len, q1, q24, p0, p24⟩, h⟩ := h
    have len' : ts.length ≤ 24 := len
    have q1' : 1 ≤ q := q1
    have q24' : q ≤ 24 := q24
    have p0' : 0 ≤ p := p0
    have p24' : p ≤ 24 := p24
    have h' : k (.list ((repT ts q ((p.toNat + q.toNat - 1) / q.toNat)).map PyData.int)) := h
    have rg := rgc p0' p24' q1' q24'
    have Nb : (p.toNat + q.toNat - 1) / q.toNat ≤ 48 := Nat.le_trans (Nat.div_le_self _ _) (by omega)
    generalize (p.toNat + q.toNat - 1) / q.toNat = N at h' rg Nb
    have ul : (under ts q).length ≤ 24 := Nat.le_trans (List.length_filter_le _ _) len'
    have rl : ∀ M : Nat, (repT ts q M).length ≤ M * 24 := fun M => by
      induction M with
      | zero => exact Nat.le_refl _
      | succ M ih =>
        rw [repT_succ, List.length_append, List.length_map, Nat.succ_mul]
        omega
    walk_at "nz"
    refine ws_seq (ws_set (we_det (ts, q) (wa_cons (we_var rfl (wa_cons (we_var rfl (wa_nil ⟨rfl, len', ?_⟩)))))))
    walk_at "nz"
    refine ws_ret ?_
    refine we_lc2R3 (fun i k acc p' => p' = [] ∧ acc = (repT ts q i ++ ((under ts q).take k).map fun t => (i : Int) * q + t).map PyData.int) 0 q N ((under ts q).map PyData.int) (fun i xs e => no_of rfl _ _ e) rfl (by decide) ?_ ?_ ?_ ?_
    · exact wa_cons (we_int (wa_cons (we_var rfl (wa_cons (we_var rfl (wa_nil ⟨p, rfl, rg, rfl, rfl⟩))))))
    · rintro i k y acc p' hi hy ⟨rfl, rfl⟩ pin
      obtain ⟨t, ht, rfl⟩ := ints_at hy
      have lenA : ((repT ts q i ++ ((under ts q).take k).map fun t => (i : Int) * q + t).map PyData.int).length < sizeLine := by
        rw [List.length_map, List.length_append, List.length_map]
        have a1 := rl i
        have a2 : i * 24 ≤ 48 * 24 := Nat.mul_le_mul_right _ (by omega)
        have a3 := List.length_take_le' k (under ts q)
        exact Nat.lt_of_le_of_lt (show _ ≤ 2000 by omega) (by decide)
      walk_at "nz"
      refine we_op (we_var rfl (we_var rfl (os_addI ?_)))
      refine ⟨lenA, rfl, ?_⟩
      rw [List.take_add_one, ht, Option.toList_some]
      simp only [List.map_append, List.map_cons, List.map_nil, List.append_assoc, Int.zero_add]
    · rintro i acc p' ⟨rfl, rfl⟩
      refine ⟨rfl, ?_⟩
      rw [List.length_map, List.take_length, repT_succ, List.take_zero]
      show _ = (_ ++ []).map _
      rw [List.append_nil]
    · rintro acc p' ⟨rfl, rfl⟩
      rw [List.take_zero]
      show k (.list ((repT ts q N ++ []).map PyData.int))
      rw [List.append_nil]
      exact h'

theorem ok_is_held (T : Tx K mg) (D_catches : D_catches_ P w K mg base) {f : Addr} {fd : FuncData} (F : Here K mg "is_held" s_is_held ["device", "height", "hand"] f fd) : D_is_held_ P w K mg base := by
  refine F.df (fgP F.1 sc_is_held (fun ds k h => ?_) fun cdv B fr s H E hg hr => ⟨_, ((pss_cons (ps_asg (pv 0) (pg_tup (n := 2) rfl (pgs_cons (pg_name (i := 3) sc_is_held.nd rfl (.inl rfl)) (pgs_cons (pg_name (i := 4) sc_is_held.nd rfl (.inl rfl)) pgs_nil))))
      (pss_one (ps_ret (pe_or (pe_callD D_catches hg (hr.mono (by decide)) (by rfl) (pa_cons (pv 3) (pa_cons (pv 1) pa_nil))) (pe_one (pe_callD D_catches hg (hr.mono (by decide)) (by rfl) (pa_cons (pv 4) (pa_cons (pe_op op_sub (pv 1) (pv 2)) pa_nil))))))))), ?_⟩)
  · obtain ⟨a, rfl, _⟩ := h; rfl
  · intro c ds k hc h
    obtain ⟨⟨v, s⟩, rfl, ok, h⟩ := h
    have ok' : v.Ok := ok
    have p1 : 0 < v.1.p := by have := Comb.Ok.p1 ok'.1; omega
    have p2 : 0 < v.2.p := by have := Comb.Ok.p1 ok'.2; omega
    walk_at "go"
    refine we_det (v.1, s.1) ?_
    walk_at "go"
    refine ⟨p1, ?_⟩
    have h' : k (.bool (held v s)) := h
    unfold held at h'
    cases hq : caught v.1 s.1 with
    | true =>
      rw [hq] at h'
      walk_at "go"
      exact h'
    | false =>
      rw [hq] at h'
      walk_at "go"
      refine we_det (v.2, s.1 - s.2) ?_
      walk_at "go"
      exact ⟨p2, h'⟩

theorem ok_comb_slacks (T : Tx K mg) (D_floor_catch : D_floor_catch_ P w K mg base) {f : Addr} {fd : FuncData} (F : Here K mg "comb_slacks" s_comb_slacks ["comb"] f fd) : D_comb_slacks_ P w K mg base := by
  refine F.df (fgP F.1 sc_comb_slacks (fun ds k h => ?_) fun cdv B fr s H E hg hr => ⟨_, ((pss_cons (ps_asg (pv 0) (pg_tup (n := 2) rfl (pgs_cons (pg_name (i := 1) sc_comb_slacks.nd rfl (.inl rfl)) (pgs_cons (pg_name (i := 2) sc_comb_slacks.nd rfl (.inl rfl)) pgs_nil))))
      (pss_one (ps_ret (pe_lc (own := [("rest", 3)]) rfl sc_comb_slacks.nd (pi_range1 (by rfl) T.n_range (pa_cons (pv 1) pa_nil)) (blkOk_by (N := ["comb", "pitch", "_", "rest"]) (sc := defScope s_comb_slacks) (by decide +kernel)) (fun _ _ _ _ _ => (pg_name (i := 3) sc_comb_slacks.nd rfl (Or.inl rfl) (Or.inr rfl))) (fun _ _ _ _ _ => pts_nil) (fun _ _ _ _ _ => (pe_op op_sub (pv 3) (pe_callD D_floor_catch hg (hr.mono (by decide)) (by rfl) (pa_cons (pv 0) (pa_cons (pv 3) pa_nil)))))))))), ?_⟩)
  · obtain ⟨a, rfl, _⟩ := h; rfl
  · intro c ds k hc h
    obtain ⟨cb, rfl, ok, h⟩ := h
    have ok' : cb.Ok := ok
    have p1 := ok'.p1
    have p2 := ok'.p24
    walk_at "go"
    refine we_lcR (fun i acc pl' => pl' = [] ∧ acc = ((List.range i).map fun (r : Nat) => slk cb (r : Int)).map PyData.int) cb.p.toNat (fun xs q => by cases q) ?_ ?_ ?_
    · walk_at "go"
      all_goals first | rfl | exact ⟨by omega, by omega, rfl, rfl⟩
    · rintro i acc pl' hi ⟨rfl, rfl⟩ pin
      walk_at "nz"
      walk_at "go"
      refine we_det (cb, (i : Int)) ?_
      walk_at "go"
      refine ⟨ok', ?_⟩
      walk_at "go"
      refine ⟨by rw [List.length_map, List.length_map, List.length_range]; exact Nat.lt_of_le_of_lt (show _ ≤ 100 by omega) (by decide), rfl, ?_⟩
      rw [List.range_succ, List.map_append, List.map_append]
      rfl
    · rintro acc pl' ⟨rfl, rfl⟩
      exact h

theorem ok_single_partings (T : Tx K mg) (D_parting_size : D_parting_size_ P w K mg base) {f : Addr} {fd : FuncData} (F : Here K mg "single_partings" s_single_partings ["first", "second"] f fd) : D_single_partings_ P w K mg base := by
  refine F.df (fgP F.1 sc_single_partings (fun ds k h => ?_) fun cdv B fr s H E hg hr => ⟨_, ((pss_cons (ps_set (i := 2) sc_single_partings.nd rfl (.inl rfl) (pe_callD D_parting_size hg (hr.mono (by decide)) (by rfl) (pa_cons (pe_ix (r := rIx K) ix_seq (pv 0) pe_int (fun _ _ => rfl)) (pa_cons (pe_ix (r := rIx K) ix_seq (pv 1) pe_int (fun _ _ => rfl)) (pa_cons pe_int pa_nil)))))
      (pss_cons (ps_set (i := 3) sc_single_partings.nd rfl (.inl rfl) (pe_callD D_parting_size hg (hr.mono (by decide)) (by rfl) (pa_cons (pe_ix (r := rIx K) ix_seq (pv 0) pe_int (fun _ _ => rfl)) (pa_cons (pe_ix (r := rIx K) ix_seq (pv 1) pe_int (fun _ _ => rfl)) (pa_cons pe_int pa_nil)))))
      (pss_cons (ps_set (i := 4) sc_single_partings.nd rfl (.inl rfl) (pe_lst pa_nil))
      (pss_cons (ps_if (pt_cmpR op_notN (pv 2) pe_non (nomark _)) (pss_one (ps_expr (pe_bm PySem.F.plainAttrs_list PySem.F.slot_list_append PySem.F.type_list_append mt_append (pv 4) (pa_cons (pe_lst (pa_cons (pe_un un_neg (pv 2)) pa_nil)) pa_nil)))) pss_nil)
      (pss_cons (ps_if (pt_cmpR op_notN (pv 3) pe_non (nomark _)) (pss_one (ps_expr (pe_bm PySem.F.plainAttrs_list PySem.F.slot_list_append PySem.F.type_list_append mt_append (pv 4) (pa_cons (pe_lst (pa_cons (pv 3) pa_nil)) pa_nil)))) pss_nil)
      (pss_one (ps_ret (pv 4))))))))), ?_⟩)
  · obtain ⟨a, rfl, _⟩ := h; rfl
  · intro c ds k hc h
    obtain ⟨⟨b, e⟩, rfl, ⟨ob, oe⟩, h⟩ := h
    have ob' : b.Ok := ob
    have oe' : e.Ok := oe
    have h' : k (.list (lstD ((sglI b e).map fun x => [x]))) := h
    unfold sglI at h'
    walk_at "nz"
    refine ws_seq (ws_set (we_det (b.1, e.1, 0) ?_))
    refine wa_cons (we_op (we_var rfl (we_int (os_t0 ?_))))
    refine wa_cons (we_op (we_var rfl (we_int (os_t0 ?_))))
    refine wa_cons (we_int (wa_nil ⟨rfl, ⟨ob'.1, oe'.1⟩, ?_⟩))
    walk_at "nz"
    refine ws_seq (ws_set (we_det (b.2, e.2, 0) ?_))
    refine wa_cons (we_op (we_var rfl (we_int (os_t1 ?_))))
    refine wa_cons (we_op (we_var rfl (we_int (os_t1 ?_))))
    refine wa_cons (we_int (wa_nil ⟨rfl, ⟨ob'.2, oe'.2⟩, ?_⟩))
    obtain ⟨x1, hx1⟩ : ∃ x, slk b.1 0 = x := ⟨_, rfl⟩
    obtain ⟨y1, hy1⟩ : ∃ y, slk e.1 0 = y := ⟨_, rfl⟩
    obtain ⟨x2, hx2⟩ : ∃ x, slk b.2 0 = x := ⟨_, rfl⟩
    obtain ⟨y2, hy2⟩ : ∃ y, slk e.2 0 = y := ⟨_, rfl⟩
    rw [hx1, hy1, hx2, hy2] at h'
    rw [show pzD (slk (b.1, e.1, (0 : Int)).1 (b.1, e.1, (0 : Int)).2.2) (slk (b.1, e.1, (0 : Int)).2.1 (b.1, e.1, (0 : Int)).2.2) = pzD x1 y1 by rw [← hx1, ← hy1], show pzD (slk (b.2, e.2, (0 : Int)).1 (b.2, e.2, (0 : Int)).2.2) (slk (b.2, e.2, (0 : Int)).2.1 (b.2, e.2, (0 : Int)).2.2) = pzD x2 y2 by rw [← hx2, ← hy2]]
    unfold pzD
    walk_at "nz"
    refine ws_seq (ws_setO (wa_nil ⟨by show 0 ≤ sizeLine; decide, ?_⟩))
    by_cases q1 : x1 = y1
    · rw [if_pos q1] at h' ⊢
      walk_at "nz"
      refine ws_seq (ws_if (wt_B (we_op (we_var rfl (we_non (os_notN ?_))))))
      refine iteN rfl ?_
      refine ws_next ?_
      by_cases q2 : x2 = y2
      · rw [if_pos q2] at h' ⊢
        walk_at "nz"
        refine ws_seq (ws_if (wt_B (we_op (we_var rfl (we_non (os_notN ?_))))))
        refine iteN rfl ?_
        refine ws_next ?_
        exact ws_retO rfl h'
      · rw [if_neg q2] at h' ⊢
        walk_at "nz"
        refine ws_seq (ws_if (wt_B (we_op (we_var rfl (we_non (os_notN ?_))))))
        refine iteV rfl ?_
        refine ws_app rfl (we_lst (wa_cons (we_var rfl (wa_nil ⟨by show 1 ≤ sizeLine; decide, by show 0 < sizeLine; decide, ?_⟩))))
        exact ws_retO rfl h'
    · rw [if_neg q1] at h' ⊢
      walk_at "nz"
      refine ws_seq (ws_if (wt_B (we_op (we_var rfl (we_non (os_notN ?_))))))
      refine iteV rfl ?_
      refine ws_app rfl (we_lst (wa_cons (we_neg (we_var rfl (wa_nil ⟨by show 1 ≤ sizeLine; decide, by show 0 < sizeLine; decide, ?_⟩)))))
      by_cases q2 : x2 = y2
      · rw [if_pos q2] at h' ⊢
        walk_at "nz"
        refine ws_seq (ws_if (wt_B (we_op (we_var rfl (we_non (os_notN ?_))))))
        refine iteN rfl ?_
        refine ws_next ?_
        exact ws_retO rfl h'
      · rw [if_neg q2] at h' ⊢
        walk_at "nz"
        refine ws_seq (ws_if (wt_B (we_op (we_var rfl (we_non (os_notN ?_))))))
        refine iteV rfl ?_
        refine ws_app rfl (we_lst (wa_cons (we_var rfl (wa_nil ⟨by show 1 ≤ sizeLine; decide, by show 1 < sizeLine; decide, ?_⟩))))
        exact ws_retO rfl h'

theorem ok_parting_pairs (T : Tx K mg) (D_parting_size : D_parting_size_ P w K mg base) {f : Addr} {fd : FuncData} (F : Here K mg "parting_pairs" s_parting_pairs ["ones", "others", "slack", "sign"] f fd) : D_parting_pairs_ P w K mg base := by
  refine F.df (fgP F.1 sc_parting_pairs (fun ds k h => ?_) fun cdv B fr s H E hg hr => ⟨_, ((pss_cons (ps_set (i := 4) sc_parting_pairs.nd rfl (.inl rfl) (pe_lst pa_nil))
      (pss_cons (ps_for PassesOwn.never rfl (pi_range2 (by rfl) T.n_range (pa_cons pe_int (pa_cons (pe_op op_addU (pe_callBfun cr_lcm (by rfl) T.b_lcm (pa_cons (pe_callB (r := rLenQ K) call_len_seq (by rfl) T.n_len (by decide +kernel) (pa_cons (pv 0) pa_nil)) (pa_cons (pe_callB (r := rLenQ K) call_len_seq (by rfl) T.n_len (by decide +kernel) (pa_cons (pv 1) pa_nil)) pa_nil))) pe_int) pa_nil))) (pg_name (i := 5) sc_parting_pairs.nd rfl (.inl rfl)) (pss_cons (ps_set (i := 6) sc_parting_pairs.nd rfl (.inl rfl) (pe_callD D_parting_size hg (hr.mono (by decide)) (by rfl) (pa_cons (pv 0) (pa_cons (pv 1) (pa_cons (pv 5) pa_nil)))))
      (pss_one (ps_if (pt_cmpR op_notN (pv 6) pe_non (nomark _)) (pss_one (ps_expr (pe_bm PySem.F.plainAttrs_list PySem.F.slot_list_append PySem.F.type_list_append mt_append (pv 4) (pa_cons (pe_lst (pa_cons (pe_op op_mulU (pv 3) (pe_op op_addU (pv 2) (pv 5))) (pa_cons (pe_op op_mulU (pe_un un_neg (pv 3)) (pv 6)) pa_nil))) pa_nil)))) pss_nil))))
      (pss_one (ps_ret (pv 4)))))), ?_⟩)
  · obtain ⟨a, rfl, _⟩ := h; rfl
  · intro c ds k hc h
    obtain ⟨⟨b, e, z, g⟩, rfl, ⟨ob, oe, z0, z1, g0, g1⟩, h⟩ := h
    have z0' : 0 ≤ z := z0
    have z1' : z ≤ 1000 := z1
    have g0' : -1 ≤ g := g0
    have g1' : g ≤ 1 := g1
    have ob' : b.Ok := ob
    have oe' : e.Ok := oe
    have h' : k (.list (lstD ((prsP b e z g (Nat.lcm b.p.natAbs e.p.natAbs)).map fun p => [p.1, p.2]))) := h
    have p24 := ob'.p24
    have q24 := oe'.p24
    have p1 := ob'.p1
    have q1 := oe'.p1
    have b64 : (25 : Nat) < 2 ^ 64 := by decide +kernel
    have lb : Nat.lcm b.p.natAbs e.p.natAbs ≤ 600 := lcm_600 ob' oe'
    have l1 : ((sl b).map PyData.int).length = b.p.toNat := by rw [List.length_map]; unfold sl; rw [List.length_map, List.length_range]
    have l2 : ((sl e).map PyData.int).length = e.p.toNat := by rw [List.length_map]; unfold sl; rw [List.length_map, List.length_range]
    obtain ⟨N, hN⟩ : ∃ N, Nat.lcm b.p.natAbs e.p.natAbs = N := ⟨_, rfl⟩
    rw [hN] at h' lb
    walk_at "nz"
    refine ws_seq (ws_setO (wa_nil ⟨by show 0 ≤ sizeLine; decide, ?_⟩))
    walk_at "nz"
    refine ws_seq ?_
    refine ws_forR2 (fun i ds' pl' => ∃ b5 b6, ds' = [some (.d (.list ((sl b).map PyData.int))), some (.d (.list ((sl e).map PyData.int))), some (.d (.int z)), some (.d (.int g)), some (.o (lstD ((prsP b e z g i).map fun p => [p.1, p.2]))), b5, b6] ∧ pl' = []) 1 ((N : Int) + 1) ?_ ?_ ?_
    · refine wa_cons (we_int (wa_cons (we_op (we_cb ?_))))
      refine wa_cons (we_cb (wa_cons (we_var rfl (wa_nil (cb_lenL ?_)))))
      refine wa_cons (we_cb (wa_cons (we_var rfl (wa_nil (cb_lenL ?_)))))
      rw [l1, l2]
      refine wa_nil (cb_lcm (by omega) (by omega) ?_)
      rw [show (((b.p.toNat : Nat) : Int)).natAbs = b.p.natAbs by omega, show (((e.p.toNat : Nat) : Int)).natAbs = e.p.natAbs by omega, hN]
      refine we_int (os_addI ?_)
      exact wa_nil ⟨rfl, by omega, _, _, rfl, rfl⟩
    · rintro i ds' pl' hi ⟨b5, b6, rfl, rfl⟩
      have ll : (lstD ((prsP b e z g i).map fun p => [p.1, p.2])).length < sizeLine := by
        unfold lstD
        rw [List.length_map, List.length_map]
        have := prs_len (c := b) (e := e) (k := z) (g := g) i
        exact Nat.lt_of_le_of_lt (show _ ≤ 1000 by omega) (by decide)
      have es : lstD ((prsP b e z g (i + 1)).map fun p => [p.1, p.2]) = lstD ((prsP b e z g i).map fun p => [p.1, p.2]) ++ lstD ((if slk b ((i : Int) + 1) = slk e ((i : Int) + 1) then [] else [(g * (z + ((i : Int) + 1)), -g * (min (slk b ((i : Int) + 1)) (slk e ((i : Int) + 1)) + 1))] : List (Int × Int)).map fun p => [p.1, p.2]) := by
        conv => lhs; unfold prsP
        unfold lstD
        rw [List.map_append, List.map_append]
      rw [es]
      obtain ⟨i9, hi9⟩ : ∃ y : Int, (i : Int) + 1 = y := ⟨_, rfl⟩
      rw [show 1 + (i : Int) = i9 by omega, hi9]
      walk_at "nz"
      refine ws_seq (ws_set (we_det (b, e, i9) ?_))
      refine wa_cons (we_var rfl (wa_cons (we_var rfl (wa_cons (we_var rfl (wa_nil ⟨rfl, ⟨ob', oe'⟩, ?_⟩))))))
      obtain ⟨x, hx⟩ : ∃ x, slk b i9 = x := ⟨_, rfl⟩
      obtain ⟨y, hy⟩ : ∃ y, slk e i9 = y := ⟨_, rfl⟩
      rw [show pzD (slk (b, e, i9).1 (b, e, i9).2.2) (slk (b, e, i9).2.1 (b, e, i9).2.2) = pzD x y by rw [← hx, ← hy], hx, hy]
      unfold pzD
      by_cases q : x = y
      · rw [if_pos q, if_pos q]
        walk_at "nz"
        refine ws_if (wt_B (we_op (we_var rfl (we_non (os_notN ?_)))))
        refine iteN rfl ?_
        refine ws_next ?_
        exact ⟨_, _, by rw [show ∀ L : List D, L ++ lstD [] = L from fun L => List.append_nil L], rfl⟩
      · rw [if_neg q, if_neg q]
        walk_at "nz"
        refine ws_if (wt_B (we_op (we_var rfl (we_non (os_notN ?_)))))
        refine iteV rfl ?_
        have x0 : 0 ≤ x := by rw [← hx]; exact slk_nn ob' i9
        have y0 : 0 ≤ y := by rw [← hy]; exact slk_nn oe' i9
        have x1 : x < 24 := by rw [← hx]; exact slk_b24 ob' i9
        refine ws_app rfl (we_lst (wa_cons (we_op (we_var rfl (we_op (we_var rfl (we_var rfl (os_addI (os_mulI ?_ ?_)))))))))
        · exact mulw 10 20 (by omega) (by omega) (by omega) (by omega) (by decide) (by decide) (by decide)
        refine wa_cons (we_op (we_neg (we_var rfl (we_var rfl (os_mulI ?_ ?_)))))
        · exact mulw 10 20 (by omega) (by omega) (by omega) (by omega) (by decide) (by decide) (by decide)
        exact wa_nil ⟨by show 2 ≤ sizeLine; decide, ll, _, _, rfl, rfl⟩
    · rintro ds' pl' ⟨b5, b6, rfl, rfl⟩
      rw [show ((N : Int) + 1 - 1).toNat = N by omega]
      walk_at "nz"
      exact ws_retO rfl h'

theorem ok__law_comb (T : Tx K mg) (D__law_pick : D__law_pick_ P w K mg base) {f : Addr} {fd : FuncData} (F : Here K mg "_law_comb" s__law_comb ["jar", "most"] f fd) : D__law_comb_ P w K mg base := by
  refine F.df (fgO F.1 sc__law_comb (fun pl ds k h => ?_) fun cdv B fr s H E hg hr => ⟨_, ((pss_cons (ps_set (i := 2) sc__law_comb.nd rfl (.inl rfl) (pe_ix (r := rIx K) ix_seq (pe_lst (pa_cons (pe_op op_addU pe_int (pe_callD D__law_pick hg (hr.mono (by decide)) (by rfl) (pa_cons (pv 0) (pa_cons (pv 1) pa_nil)))) (pa_cons (pv 1) pa_nil))) (pe_callD D__law_pick hg (hr.mono (by decide)) (by rfl) (pa_cons (pv 0) (pa_cons pe_int pa_nil))) (fun _ _ => rfl)))
      (pss_cons (ps_set (i := 3) sc__law_comb.nd rfl (.inl rfl) (pe_ix (r := rIx K) ix_seq (pe_lst (pa_cons pe_int (pa_cons (pe_op op_addU pe_int (pe_callD D__law_pick hg (hr.mono (by decide)) (by rfl) (pa_cons (pv 0) (pa_cons (pe_callB (call_min2 rfl) (by rfl) T.n_min (by decide +kernel) (pa_cons pe_int (pa_cons (pv 2) pa_nil))) pa_nil)))) (pa_cons (pe_op op_addU pe_int (pe_callD D__law_pick hg (hr.mono (by decide)) (by rfl) (pa_cons (pv 0) (pa_cons (pv 2) pa_nil)))) (pa_cons (pv 2) pa_nil))))) (pe_callD D__law_pick hg (hr.mono (by decide)) (by rfl) (pa_cons (pv 0) (pa_cons pe_int pa_nil))) (fun _ _ => rfl)))
      (pss_cons (ps_par (i := 4) (j := 5) rfl sc__law_comb.nd rfl rfl (by decide) rfl rfl (pa_cons (pe_listRg rfl (by rfl) T.n_list (prg_1 (by rfl) T.n_range (pv 2))) (pa_cons (pe_lst pa_nil) pa_nil)) (by rfl))
      (pss_cons (ps_for PassesOwn.never rfl (pi_range1 (by rfl) T.n_range (pa_cons (pv 3) pa_nil)) (pg_name (i := 6) sc__law_comb.nd rfl (.inl rfl)) (pss_one (ps_expr (pe_bm PySem.F.plainAttrs_list PySem.F.slot_list_append PySem.F.type_list_append mt_append (pv 5) (pa_cons (pe_bm PySem.F.plainAttrs_list PySem.F.slot_list_pop PySem.F.type_list_pop mt_popAt (pv 4) (pa_cons (pe_callD D__law_pick hg (hr.mono (by decide)) (by rfl) (pa_cons (pv 0) (pa_cons (pe_callB (r := rLenQ K) call_len_seq (by rfl) T.n_len (by decide +kernel) (pa_cons (pv 4) pa_nil)) pa_nil))) pa_nil)) pa_nil)))))
      (pss_one (ps_ret (pe_tup (pa_cons (pv 2) (pa_cons (pe_callB (r := rSortedI K) cr_sortedI (by rfl) T.n_sorted (by decide +kernel) (pa_cons (pv 5) pa_nil)) pa_nil)))))))))), ?_⟩)
  · obtain ⟨a, n, rfl, _⟩ := h; rfl
  · intro c p pl ds k hp h
    obtain ⟨most, n, rfl, ⟨t0, t1⟩, hP, hn, h⟩ := h
    have t0' : 1 ≤ most := t0
    have t1' : most ≤ 24 := t1
    have big : (24 : Int) < (2 : Int) ^ 200 := by decide +kernel
    walk_at "go"
    refine we_lst ?_
    walk_at "go"
    refine we_draw most n rfl hp ?_
    walk_at "go"
    refine ⟨⟨by omega, by omega⟩, hP, by omega, fun v1 pl1 v10 v11 hP1 => ?_⟩
    walk_at "go"
    refine we_draw 2 (n + 1) rfl hp ?_
    walk_at "go"
    refine ⟨hP1, by omega, fun v2 pl2 v20 v21 hP2 => ?_⟩
    walk_at "go"
    refine os_pick (fun x => ∃ z : Int, x = .int z ∧ 1 ≤ z ∧ z ≤ 24) v20 v21 ?_ ?_
    · intro x hx
      rcases List.mem_cons.mp hx with rfl | hx
      · exact ⟨1 + v1, rfl, by omega, by omega⟩
      · rcases List.mem_cons.mp hx with rfl | hx
        · exact ⟨most, rfl, by omega, by omega⟩
        · cases hx
    rintro _ ⟨z, rfl, s1, s24⟩
    walk_at "nz"
    refine ws_seq (ws_set (we_op ?_))
    repeat (first | walk_at "pd" | with_reducible refine we_lst ?_)
    refine we_draw (min 3 z) (n + 2) rfl hp ?_
    walk_at "go"
    refine ⟨⟨by omega, by omega⟩, hP2, by omega, fun v3 pl3 v30 v31 hP3 => ?_⟩
    walk_at "go"
    refine we_draw z (n + 3) rfl hp ?_
    walk_at "go"
    refine ⟨⟨by omega, by omega⟩, hP3, by omega, fun v4 pl4 v40 v41 hP4 => ?_⟩
    walk_at "go"
    refine we_draw 4 (n + 4) rfl hp ?_
    walk_at "go"
    refine ⟨hP4, by omega, fun v5 pl5 v50 v51 hP5 => ?_⟩
    refine os_pick (fun x => ∃ j : Int, x = .int j ∧ 1 ≤ j ∧ j ≤ z) v50 v51 ?_ ?_
    · intro x hx
      simp only [List.mem_cons, List.not_mem_nil, or_false] at hx
      rcases hx with rfl | rfl | rfl | rfl
      · exact ⟨_, rfl, by omega, by omega⟩
      · exact ⟨_, rfl, by omega, by omega⟩
      · exact ⟨_, rfl, by omega, by omega⟩
      · exact ⟨_, rfl, by omega, by omega⟩
    rintro _ ⟨many, rfl, a1, a2⟩
    obtain ⟨Z, rfl⟩ : ∃ Z : Nat, z = (Z : Int) := ⟨z.toNat, by omega⟩
    obtain ⟨A, rfl⟩ : ∃ A : Nat, many = (A : Int) := ⟨many.toNat, by omega⟩
    walk_at "nz"
    refine ws_seq (ws_parLR (we_var rfl ⟨Z, rfl, by omega, ?_⟩))
    walk_at "nz"
    refine ws_seq ?_
    refine ws_forR1 (fun i ds' pl' => ∃ (F Lf : List Int) (x : _), ds' = [some (.v (.ref p)), some (.d (.int most)), some (.d (.int (Z : Int))), some (.d (.int (A : Int))), some (.o (Lf.map PyData.int)), some (.o (F.map PyData.int)), x] ∧ F.length = i ∧ (F ++ Lf).Perm ((List.range Z).map fun (i : Nat) => (i : Int)) ∧ Pk (n + 5 + i) pl') A ?_ ?_ ?_
    · refine wa_cons (we_var rfl (wa_nil ⟨(A : Int), rfl, Int.toNat_natCast _, by omega, by omega, [], _, _, rfl, rfl, .refl _, hP5⟩))
    · rintro i ds' pl' hi ⟨F, Lf, x, rfl, fl, pm, hPi⟩
      have ll : F.length + Lf.length = Z := by
        have := pm.length_eq
        rwa [List.length_append, List.length_map, List.length_range] at this
      obtain ⟨q, hq⟩ : ∃ q : Int, ((Lf.map PyData.int).length : Int) = q := ⟨_, rfl⟩
      have hq2 : (Lf.length : Int) = q := by rw [← hq, List.length_map]
      walk_at "nz"
      refine ws_appPop (xs := F.map PyData.int) (ys := Lf.map PyData.int) rfl rfl (by decide) ?_
      refine we_draw q (n + 5 + i) rfl hp ?_
      refine wa_cons (we_lenO (xs := Lf.map PyData.int) rfl ?_)
      refine wa_nil ⟨by rw [hq], ⟨by omega, by omega⟩, hPi, by omega, fun v6 pl6 v60 v61 hP6 => ?_⟩
      obtain ⟨m, rfl⟩ : ∃ m : Nat, v6 = (m : Int) := ⟨v6.toNat, by omega⟩
      have hm : m < Lf.length := by omega
      refine ⟨m, .int (Lf[m]'hm), rfl, by omega, by rw [List.getElem?_map, List.getElem?_eq_getElem hm]; rfl, by rw [List.length_map]; exact Nat.lt_of_le_of_lt (show _ ≤ 100 by omega) (by decide), ?_⟩
      refine ⟨F ++ [Lf[m]'hm], Lf.eraseIdx m, some (.d (.int (i : Int))), ?_, by rw [List.length_append, fl]; rfl, ?_, hP6⟩
      · have e1 : (Lf.map PyData.int).eraseIdx m = (Lf.eraseIdx m).map PyData.int := erase_map ..
        rw [e1, List.map_append]
        rfl
      · rw [List.append_assoc]
        exact ((erase_perm hm).append_left F).trans pm
    · rintro ds' pl' ⟨F, Lf, x, rfl, fl, pm, hPi⟩
      refine ws_frz (i := 5) rfl ?_
      walk_at "nz"
      refine ws_ret (we_tup (wa_cons (we_var rfl (wa_cons (we_cb (wa_cons (we_var rfl (wa_nil (cb_sortedI fun S pmS psS => ?_)))))))))
      refine wa_nil ⟨by show 2 ≤ sizeLine; decide, ?_⟩
      have inF : ∀ t ∈ S, 0 ≤ t ∧ t < (Z : Int) := fun t ht => range_in (pm.mem_iff.mp (List.mem_append_left _ (pmS.mem_iff.mp ht)))
      have nd : S.Pairwise (· ≠ ·) := by
        have h1 : ((List.range Z).map fun (i : Nat) => (i : Int)).Pairwise (· ≠ ·) := (range_up Z).imp fun h => Int.ne_of_lt h
        have h2 : (F ++ Lf).Pairwise (· ≠ ·) := (pm.pairwise_iff (fun h => Ne.symm h)).mpr h1
        exact (pmS.pairwise_iff (fun h => Ne.symm h)).mpr (List.pairwise_append.mp h2).1
      have up : S.Pairwise (· < ·) := (psS.and nd).imp fun h => by have := h.1; have := h.2; omega
      exact h _ _ ⟨⟨(Z : Int), S⟩, rfl, ⟨s1, s24, fun z => by
        have z' : S = [] := z
        have := pmS.length_eq
        rw [z', fl] at this
        have h0 : ([] : List Int).length = 0 := rfl
        omega, fun t ht => (inF t ht).1, fun t ht => (inF t ht).2, up⟩⟩ (hPi.up (by show n + 5 + A ≤ n + 100; omega))

theorem ok__law_rise (T : Tx K mg) (D__law_under : D__law_under_ P w K mg base) {f : Addr} {fd : FuncData} (F : Here K mg "_law_rise" s__law_rise ["pair", "start_here", "step"] f fd) : D__law_rise_ P w K mg base := by
  refine F.df (fgP F.1 sc__law_rise (fun ds k h => ?_) fun cdv B fr s H E hg hr => ⟨_, ((pss_cons (ps_asg (pv 1) (pg_tup (n := 2) rfl (pgs_cons (pg_name (i := 3) sc__law_rise.nd rfl (.inl rfl)) (pgs_cons (pg_name (i := 4) sc__law_rise.nd rfl (.inl rfl)) pgs_nil))))
      (pss_cons (ps_if (pt_cmpR op_gt (pv 2) pe_int (nomark _)) (pss_cons (ps_set (i := 5) sc__law_rise.nd rfl (.inl rfl) (pe_callB (call_max2 rfl) (by rfl) T.n_max (by decide +kernel) (pa_cons (pe_op op_sub (pv 4) (pv 2)) (pa_cons (pe_callD D__law_under hg (hr.mono (by decide)) (by rfl) (pa_cons (pe_ix (r := rIx K) ix_seq (pv 0) pe_int (fun _ _ => rfl)) (pa_cons (pv 4) pa_nil))) pa_nil))))
      (pss_one (ps_set (i := 6) sc__law_rise.nd rfl (.inl rfl) (pe_op op_sub (pe_op op_addU (pv 2) (pv 5)) (pv 4))))) (pss_cons (ps_set (i := 6) sc__law_rise.nd rfl (.inl rfl) (pe_callB (call_max2 rfl) (by rfl) T.n_max (by decide +kernel) (pa_cons (pv 2) (pa_cons (pe_op op_sub (pe_callD D__law_under hg (hr.mono (by decide)) (by rfl) (pa_cons (pe_ix (r := rIx K) ix_seq (pv 0) pe_int (fun _ _ => rfl)) (pa_cons (pv 3) pa_nil))) (pv 3)) pa_nil))))
      (pss_one (ps_set (i := 5) sc__law_rise.nd rfl (.inl rfl) (pe_op op_sub (pe_op op_addU (pv 4) (pv 6)) (pv 2))))))
      (pss_one (ps_ret (pe_tup (pa_cons (pv 6) (pa_cons (pe_tup (pa_cons (pe_op op_mod (pe_callTy call_int1 (by rfl) T.n_int (by decide +kernel) (pa_cons (pe_op op_addU (pv 3) (pv 6)) pa_nil)) (pe_ix (r := rIx K) ix_seq (pe_ix (r := rIx K) ix_seq (pv 0) pe_int (fun _ _ => rfl)) pe_int (fun _ _ => rfl))) (pa_cons (pe_op op_mod (pe_callTy call_int1 (by rfl) T.n_int (by decide +kernel) (pa_cons (pv 5) pa_nil)) (pe_ix (r := rIx K) ix_seq (pe_ix (r := rIx K) ix_seq (pv 0) pe_int (fun _ _ => rfl)) pe_int (fun _ _ => rfl))) pa_nil))) pa_nil)))))))), ?_⟩)
  · obtain ⟨a, rfl, _⟩ := h; rfl
  · intro c ds k hc h
    obtain ⟨⟨v, s, m⟩, rfl, ⟨ok, m0⟩, h⟩ := h
    have ok' : v.Ok := ok
    have m0' : m ≠ 0 := m0
    have p1 := ok'.1.p1
    have q1 := ok'.2.p1
    have h' : k (.tuple [.int (rs v s m), Sv.d (plc v (mv v s m))]) := h
    obtain ⟨l, hl⟩ : ∃ l, lf s = l := ⟨_, rfl⟩
    obtain ⟨more, hm⟩ : ∃ z, rs v s m = z := ⟨_, rfl⟩
    have e1 : (mv v s m).1 = s.1 + more := by rw [← hm]; unfold rs; omega
    have e2 : lf (mv v s m) = l + more - m := by have := mv_hand v s m; show (mv v s m).1 - (mv v s m).2 = _; rw [e1, this, ← hl]; show s.1 + more - (s.2 + m) = s.1 - s.2 + more - m; omega
    have e3 : plc v (mv v s m) = ((s.1 + more) % v.1.p, (l + more - m) % v.2.p) := by unfold plc; rw [e1, e2]
    rw [e3, hm] at h'
    walk_at "nz"
    first
    | rw [show s.1 - s.2 = l from hl]
    | rw [hl]
    refine ws_seq (ws_unp (we_var rfl ⟨_, _, rfl, ?_⟩))
    walk_at "nz"
    refine ws_seqJ (fun ds' p' => ds' = [some (.d v.d), some (.d (.tuple [.int s.1, .int l])), some (.d (.int m)), some (.d (.int s.1)), some (.d (.int l)), some (.d (.int (l + more - m))), some (.d (.int more))] ∧ p' = []) ?_ ?_
    · refine ws_if (wt_B (we_op (we_var rfl (we_int (os_gt ?_)))))
      walk_at "nz"
      by_cases z : 0 < m
      · refine iteV (decide_eq_true z) ?_
        have hz := rs_up (v := v) (s := s) z
        rw [hm, hl] at hz
        have fl : slk v.2 l = l - flo v.2 l := rfl
        refine ws_seq (ws_set (we_cb (wa_cons (we_op (we_var rfl (we_var rfl (os_sub ?_)))))))
        refine wa_cons (we_det (v.2, l) ?_)
        refine wa_cons (we_op (we_var rfl (we_int (os_t1 ?_))))
        refine wa_cons (we_var rfl (wa_nil ⟨rfl, ok'.2, ?_⟩))
        refine wa_nil (cb_max2 ?_)
        rw [show max (l - m) (flo (v.2, l).1 (v.2, l).2) = l + more - m by show max (l - m) (flo v.2 l) = _; omega]
        walk_at "nz"
        refine ws_set (we_op (we_op (we_var rfl (we_var rfl (os_addI (we_var rfl (os_sub ?_)))))))
        exact ⟨by rw [show m + (l + more - m) - l = more by omega]; rfl, rfl⟩
      · refine iteN (decide_eq_false z) ?_
        have hz := rs_down (v := v) (s := s) (show m < 0 by omega)
        rw [hm] at hz
        have fl : slk v.1 s.1 = s.1 - flo v.1 s.1 := rfl
        refine ws_seq (ws_set (we_cb (wa_cons (we_var rfl ?_))))
        refine wa_cons (we_op (we_det (v.1, s.1) ?_))
        refine wa_cons (we_op (we_var rfl (we_int (os_t0 ?_))))
        refine wa_cons (we_var rfl (wa_nil ⟨rfl, ok'.1, ?_⟩))
        refine we_var rfl (os_sub ?_)
        refine wa_nil (cb_max2 ?_)
        rw [show max m (flo (v.1, s.1).1 (v.1, s.1).2 - s.1) = more by show max m (flo v.1 s.1 - s.1) = _; omega]
        walk_at "nz"
        refine ws_set (we_op (we_op (we_var rfl (we_var rfl (os_addI (we_var rfl (os_sub ?_)))))))
        exact ⟨rfl, rfl⟩
    rintro ds' p' ⟨rfl, rfl⟩
    walk_at "nz"
    refine ws_ret (we_tup (wa_cons (we_var rfl ?_)))
    refine wa_cons (we_tup (wa_cons (we_op (we_cb (wa_cons (we_op (we_var rfl (we_var rfl (os_addI (wa_nil (cb_int ?_)))))))))))
    refine we_op (we_op (we_var rfl (we_int (os_t0 (we_int (os_t0 (os_mod (show 0 < v.1.p by omega) ?_)))))))
    refine wa_cons (we_op (we_cb (wa_cons (we_var rfl (wa_nil (cb_int ?_))))))
    refine we_op (we_op (we_var rfl (we_int (os_t1 (we_int (os_t0 (os_mod (show 0 < v.2.p by omega) ?_)))))))
    exact wa_nil ⟨by show 2 ≤ sizeLine; decide, wa_nil ⟨by show 2 ≤ sizeLine; decide, h'⟩⟩

theorem ok__law_stand (T : Tx K mg) (D__law_pick : D__law_pick_ P w K mg base) (D__law_under : D__law_under_ P w K mg base) {f : Addr} {fd : FuncData} (F : Here K mg "_law_stand" s__law_stand ["jar", "pair", "far"] f fd) : D__law_stand_ P w K mg base := by
  refine F.df (fgO F.1 sc__law_stand (fun pl ds k h => ?_) fun cdv B fr s H E hg hr => ⟨_, ((pss_cons (ps_set (i := 3) sc__law_stand.nd rfl (.inl rfl) (pe_op op_sub (pe_callD D__law_pick hg (hr.mono (by decide)) (by rfl) (pa_cons (pv 0) (pa_cons (pe_op op_addU (pe_op op_mulU pe_int (pv 2)) pe_int) pa_nil))) (pv 2)))
      (pss_cons (ps_set (i := 4) sc__law_stand.nd rfl (.inl rfl) (pe_op op_sub (pe_callD D__law_pick hg (hr.mono (by decide)) (by rfl) (pa_cons (pv 0) (pa_cons (pe_op op_addU (pe_op op_mulU pe_int (pv 2)) pe_int) pa_nil))) (pv 2)))
      (pss_cons (ps_set (i := 4) sc__law_stand.nd rfl (.inl rfl) (pe_ix (r := rIx K) ix_seq (pe_lst (pa_cons (pe_callD D__law_under hg (hr.mono (by decide)) (by rfl) (pa_cons (pe_ix (r := rIx K) ix_seq (pv 1) pe_int (fun _ _ => rfl)) (pa_cons (pv 4) pa_nil))) (pa_cons (pe_op op_addU (pv 3) (pe_callD D__law_under hg (hr.mono (by decide)) (by rfl) (pa_cons (pe_ix (r := rIx K) ix_seq (pv 1) pe_int (fun _ _ => rfl)) (pa_cons (pe_op op_sub (pv 4) (pv 3)) pa_nil)))) pa_nil))) (pe_callD D__law_pick hg (hr.mono (by decide)) (by rfl) (pa_cons (pv 0) (pa_cons pe_int pa_nil))) (fun _ _ => rfl)))
      (pss_one (ps_ret (pe_tup (pa_cons (pv 4) (pa_cons (pv 3) pa_nil))))))))), ?_⟩)
  · obtain ⟨a, n, rfl, _⟩ := h; rfl
  · intro c p pl ds k hp h
    obtain ⟨⟨v, far⟩, n, rfl, ⟨ok, f0, f1⟩, hP, hn, h⟩ := h
    have ok' : v.Ok := ok
    have f0' : 1 ≤ far := f0
    have f1' : far ≤ 10 ^ 37 := f1
    have b200 : 2 * (10 : Int) ^ 37 + 1 < 2 ^ 200 := by decide +kernel
    have b38 : 3 * (10 : Int) ^ 37 + 100 < 10 ^ 38 := by decide +kernel
    walk_at "nz"
    refine ws_seq (ws_set (we_op ?_))
    refine we_draw (2 * far + 1) n rfl hp ?_
    refine wa_cons (we_op (we_op (we_int (we_var rfl ?_))))
    refine os_mulI (mulw 20 200 (by decide) (by decide) (by omega) (by omega) (by decide) (by decide) (by decide)) ?_
    refine we_int (os_addI ?_)
    refine wa_nil ⟨rfl, ⟨by omega, by omega⟩, hP, by show n < 9000000; omega, fun v1 pl1 v10 v11 hP1 => ?_⟩
    refine we_var rfl (os_sub ?_)
    obtain ⟨arm, harm⟩ : ∃ x, v1 - far = x := ⟨_, rfl⟩
    rw [harm]
    walk_at "nz"
    refine ws_seq (ws_set (we_op ?_))
    refine we_draw (2 * far + 1) (n + 1) rfl hp ?_
    refine wa_cons (we_op (we_op (we_int (we_var rfl ?_))))
    refine os_mulI (mulw 20 200 (by decide) (by decide) (by omega) (by omega) (by decide) (by decide) (by decide)) ?_
    refine we_int (os_addI ?_)
    refine wa_nil ⟨rfl, ⟨by omega, by omega⟩, hP1, by omega, fun v2 pl2 v20 v21 hP2 => ?_⟩
    refine we_var rfl (os_sub ?_)
    obtain ⟨x, hx⟩ : ∃ x, v2 - far = x := ⟨_, rfl⟩
    rw [hx]
    have g1 := flo_near ok'.1 x
    have g2 := flo_near ok'.2 (x - arm)
    walk_at "nz"
    refine ws_seq (ws_set (we_op (we_lst ?_)))
    walk_at "go"
    refine we_det (v.1, x) ?_
    walk_at "go"
    refine ⟨ok'.1, ?_⟩
    walk_at "go"
    refine we_det (v.2, x - arm) ?_
    walk_at "go"
    refine ⟨ok'.2, ?_⟩
    walk_at "go"
    refine we_draw 2 (n + 2) rfl hp ?_
    walk_at "go"
    refine ⟨hP2, by omega, fun v3 pl3 v30 v31 hP3 => ?_⟩
    walk_at "nz"
    refine os_pick (fun d => ∃ y : Int, d = .int y ∧ held v (y, arm) = true ∧ y.natAbs ≤ 10 ^ 38) v30 v31 ?_ ?_
    · intro d hd
      simp only [List.mem_cons, List.not_mem_nil, or_false] at hd
      rcases hd with rfl | rfl
      · refine ⟨_, rfl, ?_, by show (flo v.1 x).natAbs ≤ _; omega⟩
        unfold held
        rw [show caught v.1 (flo v.1 x, arm).1 = true from (flo_spec ok'.1 x).2.1]
        rfl
      · refine ⟨_, rfl, ?_, by show (arm + flo v.2 (x - arm)).natAbs ≤ _; omega⟩
        unfold held
        rw [show (arm + flo v.2 (x - arm), arm).1 - (arm + flo v.2 (x - arm), arm).2 = flo v.2 (x - arm) by show arm + flo v.2 (x - arm) - arm = _; omega, (flo_spec ok'.2 (x - arm)).2.1, Bool.or_true]
    rintro _ ⟨y, rfl, hy, yb⟩
    walk_at "go"
    exact h _ _ ⟨(y, arm), rfl, hy, yb, by show arm.natAbs ≤ _; omega⟩ (hP3.up (by show n + 2 + 1 ≤ n + 3; omega))

theorem ok_check_comb (T : Tx K mg) (D_are_teeth : D_are_teeth_ P w K mg base) (D_is_pair : D_is_pair_ P w K mg base) (D_is_pitch : D_is_pitch_ P w K mg base) {f : Addr} {fd : FuncData} (F : Here K mg "check_comb" s_check_comb ["comb"] f fd) : D_check_comb_ P w K mg base := by
  refine F.df (fgP F.1 sc_check_comb (fun ds k h => ?_) fun cdv B fr s H E hg hr => ⟨_, ((pss_cons (ps_if (pt_not (pt_val (pe_callD D_is_pair hg (hr.mono (by decide)) (by rfl) (pa_cons (pv 0) pa_nil)))) (pss_one ps_never) pss_nil)
      (pss_cons (ps_asg (pv 0) (pg_tup (n := 2) rfl (pgs_cons (pg_name (i := 1) sc_check_comb.nd rfl (.inl rfl)) (pgs_cons (pg_name (i := 2) sc_check_comb.nd rfl (.inl rfl)) pgs_nil))))
      (pss_cons (ps_if (pt_not (pt_val (pe_callD D_is_pitch hg (hr.mono (by decide)) (by rfl) (pa_cons (pv 1) pa_nil)))) (pss_one ps_never) pss_nil)
      (pss_one (ps_if (pt_not (pt_val (pe_callD D_are_teeth hg (hr.mono (by decide)) (by rfl) (pa_cons (pv 2) (pa_cons (pv 1) pa_nil))))) (pss_one ps_never) pss_nil)))))), ?_⟩)
  · obtain ⟨a, rfl, _⟩ := h; rfl
  · intro c ds k hc h
    obtain ⟨cb, rfl, ok, h⟩ := h
    have ok' : cb.Ok := ok
    have ip : isPitch (.int cb.p) = true := by unfold isPitch; exact decide_eq_true ⟨ok'.p1, ok'.p24⟩
    walk_at "go"
    refine we_det cb.d ?_
    walk_at "go"
    refine we_det (.int cb.p) ?_
    walk_at "go"
    refine iteN (by rw [ip]; rfl) ?_
    walk_at "go"
    refine we_det cb ?_
    walk_at "go"
    refine ⟨ok', ?_⟩
    walk_at "go"
    exact h

theorem ok_is_comb (T : Tx K mg) (D_are_teeth : D_are_teeth_ P w K mg base) (D_is_pair : D_is_pair_ P w K mg base) (D_is_pitch : D_is_pitch_ P w K mg base) {f : Addr} {fd : FuncData} (F : Here K mg "is_comb" s_is_comb ["value"] f fd) : D_is_comb_ P w K mg base := by
  refine F.df (fgP F.1 sc_is_comb (fun ds k h => ?_) fun cdv B fr s H E hg hr => ⟨_, ((pss_one (ps_ret (pe_and (pe_callD D_is_pair hg (hr.mono (by decide)) (by rfl) (pa_cons (pv 0) pa_nil)) (pe_and (pe_callD D_is_pitch hg (hr.mono (by decide)) (by rfl) (pa_cons (pe_ix (r := rIx K) ix_seq (pv 0) pe_int (fun _ _ => rfl)) pa_nil)) (pe_one (pe_callD D_are_teeth hg (hr.mono (by decide)) (by rfl) (pa_cons (pe_ix (r := rIx K) ix_seq (pv 0) pe_int (fun _ _ => rfl)) (pa_cons (pe_ix (r := rIx K) ix_seq (pv 0) pe_int (fun _ _ => rfl)) pa_nil))))))))), ?_⟩)
  · obtain ⟨a, rfl, _⟩ := h; rfl
  · intro c ds k hc h
    obtain ⟨cb, rfl, ok, h⟩ := h
    walk_at "go"
    refine we_det cb.d ?_
    walk_at "go"
    refine we_det (.int cb.p) ?_
    walk_at "go"
    have e : isPitch (.int cb.p) = true := decide_eq_true ⟨Comb.Ok.p1 ok, Comb.Ok.p24 ok⟩
    rw [e]
    walk_at "go"
    refine we_det cb ?_
    walk_at "go"
    exact ⟨ok, h⟩

theorem ok_fits_device (T : Tx K mg) (D_is_held : D_is_held_ P w K mg base) (D_is_whole_pair : D_is_whole_pair_ P w K mg base) {f : Addr} {fd : FuncData} (F : Here K mg "fits_device" s_fits_device ["device", "value"] f fd) : D_fits_device_ P w K mg base := by
  refine F.df (fgP F.1 sc_fits_device (fun ds k h => ?_) fun cdv B fr s H E hg hr => ⟨_, ((pss_one (ps_ret (pe_and (pe_callD D_is_whole_pair hg (hr.mono (by decide)) (by rfl) (pa_cons (pv 1) pa_nil)) (pe_one (pe_callD D_is_held hg (hr.mono (by decide)) (by rfl) (pa_cons (pv 0) (pa_cons (pe_ix (r := rIx K) ix_seq (pv 1) pe_int (fun _ _ => rfl)) (pa_cons (pe_ix (r := rIx K) ix_seq (pv 1) pe_int (fun _ _ => rfl)) pa_nil))))))))), ?_⟩)
  · obtain ⟨a, rfl, _⟩ := h; rfl
  · intro c ds k hc h
    obtain ⟨⟨v, s⟩, rfl, ok, h⟩ := h
    walk_at "go"
    refine we_det (s.d) ?_
    walk_at "go"
    refine we_det (v, s) ?_
    walk_at "go"
    exact ⟨ok, h⟩

theorem ok_device_slacks (T : Tx K mg) (D_comb_slacks : D_comb_slacks_ P w K mg base) {f : Addr} {fd : FuncData} (F : Here K mg "device_slacks" s_device_slacks ["device"] f fd) : D_device_slacks_ P w K mg base := by
  refine F.df (fgP F.1 sc_device_slacks (fun ds k h => ?_) fun cdv B fr s H E hg hr => ⟨_, ((pss_cons (ps_asg (pv 0) (pg_tup (n := 2) rfl (pgs_cons (pg_name (i := 1) sc_device_slacks.nd rfl (.inl rfl)) (pgs_cons (pg_name (i := 2) sc_device_slacks.nd rfl (.inl rfl)) pgs_nil))))
      (pss_one (ps_ret (pe_tup (pa_cons (pe_callD D_comb_slacks hg (hr.mono (by decide)) (by rfl) (pa_cons (pv 1) pa_nil)) (pa_cons (pe_callD D_comb_slacks hg (hr.mono (by decide)) (by rfl) (pa_cons (pv 2) pa_nil)) pa_nil))))))), ?_⟩)
  · obtain ⟨a, rfl, _⟩ := h; rfl
  · intro c ds k hc h
    obtain ⟨v, rfl, ok, h⟩ := h
    have ok' : v.Ok := ok
    walk_at "go"
    refine we_det v.1 ?_
    walk_at "go"
    refine ⟨ok'.1, ?_⟩
    walk_at "go"
    refine we_det v.2 ?_
    walk_at "go"
    refine ⟨ok'.2, ?_⟩
    walk_at "go"
    exact h

theorem ok_double_partings (T : Tx K mg) (D_parting_pairs : D_parting_pairs_ P w K mg base) {f : Addr} {fd : FuncData} (F : Here K mg "double_partings" s_double_partings ["first", "second"] f fd) : D_double_partings_ P w K mg base := by
  refine F.df (fgP F.1 sc_double_partings (fun ds k h => ?_) fun cdv B fr s H E hg hr => ⟨_, ((pss_cons (ps_par (i := 2) (j := 3) rfl sc_double_partings.nd rfl rfl (by decide) rfl rfl (pa_cons (pe_ix (r := rIx K) ix_seq (pe_ix (r := rIx K) ix_seq (pv 0) pe_int (fun _ _ => rfl)) pe_int (fun _ _ => rfl)) (pa_cons (pe_ix (r := rIx K) ix_seq (pe_ix (r := rIx K) ix_seq (pv 0) pe_int (fun _ _ => rfl)) pe_int (fun _ _ => rfl)) pa_nil)) (by rfl))
      (pss_cons (ps_set (i := 4) sc_double_partings.nd rfl (.inl rfl) (pe_callD D_parting_pairs hg (hr.mono (by decide)) (by rfl) (pa_cons (pe_ix (r := rIx K) ix_seq (pv 0) pe_int (fun _ _ => rfl)) (pa_cons (pe_ix (r := rIx K) ix_seq (pv 1) pe_int (fun _ _ => rfl)) (pa_cons (pv 3) (pa_cons pe_int pa_nil))))))
      (pss_cons (ps_set (i := 5) sc_double_partings.nd rfl (.inl rfl) (pe_callD D_parting_pairs hg (hr.mono (by decide)) (by rfl) (pa_cons (pe_ix (r := rIx K) ix_seq (pv 0) pe_int (fun _ _ => rfl)) (pa_cons (pe_ix (r := rIx K) ix_seq (pv 1) pe_int (fun _ _ => rfl)) (pa_cons (pv 2) (pa_cons (pe_un un_neg pe_int) pa_nil))))))
      (pss_one (ps_ret (pe_op op_addU (pv 4) (pv 5)))))))), ?_⟩)
  · obtain ⟨a, rfl, _⟩ := h; rfl
  · intro c ds k hc h
    obtain ⟨⟨b, e⟩, rfl, ⟨ob, oe⟩, h⟩ := h
    have ob' : b.Ok := ob
    have oe' : e.Ok := oe
    have h' : k (.list (lstD ((dblP b e (Nat.lcm b.1.p.natAbs e.1.p.natAbs) (Nat.lcm b.2.p.natAbs e.2.p.natAbs)).map fun p => [p.1, p.2]))) := h
    have s1 : atI ((sl b.1).map PyData.int) 0 = some (.int (slk b.1 0)) := by
      have := sl_at ob'.1 0
      rw [Int.zero_emod] at this
      exact this
    have s2 : atI ((sl b.2).map PyData.int) 0 = some (.int (slk b.2 0)) := by
      have := sl_at ob'.2 0
      rw [Int.zero_emod] at this
      exact this
    have n1 := slk_nn ob'.1 0
    have n2 := slk_nn ob'.2 0
    have m1 := slk_b24 ob'.1 0
    have m2 := slk_b24 ob'.2 0
    unfold dblP at h'
    obtain ⟨sink, hsink⟩ : ∃ x, slk b.1 0 = x := ⟨_, rfl⟩
    obtain ⟨slack, hslack⟩ : ∃ x, slk b.2 0 = x := ⟨_, rfl⟩
    rw [hsink] at s1 n1 m1 h'
    rw [hslack] at s2 n2 m2 h'
    walk_at "nz"
    refine ws_seq (ws_par (wa_cons (we_op (we_op (we_var rfl (we_int (os_t0 (we_int (os_ix s1 ?_)))))))))
    refine wa_cons (we_op (we_op (we_var rfl (we_int (os_t1 (we_int (os_ix s2 (wa_nil ?_))))))))
    refine ⟨_, _, rfl, ?_⟩
    walk_at "nz"
    refine ws_seq (ws_set (we_det (b.1, e.1, slack, 1) ?_))
    refine wa_cons (we_op (we_var rfl (we_int (os_t0 ?_))))
    refine wa_cons (we_op (we_var rfl (we_int (os_t0 ?_))))
    refine wa_cons (we_var rfl (wa_cons (we_int (wa_nil ⟨rfl, ⟨ob'.1, oe'.1, n2, by show slack ≤ 1000; omega, by show (-1 : Int) ≤ 1; decide, by show (1 : Int) ≤ 1; decide⟩, ?_⟩))))
    walk_at "nz"
    refine ws_seq (ws_set (we_det (b.2, e.2, sink, -1) ?_))
    refine wa_cons (we_op (we_var rfl (we_int (os_t1 ?_))))
    refine wa_cons (we_op (we_var rfl (we_int (os_t1 ?_))))
    refine wa_cons (we_var rfl (wa_cons (we_neg (we_int (wa_nil ⟨rfl, ⟨ob'.2, oe'.2, n1, by show sink ≤ 1000; omega, by show (-1 : Int) ≤ -1; decide, by show (-1 : Int) ≤ 1; decide⟩, ?_⟩)))))
    walk_at "nz"
    refine ws_ret (we_op (we_var rfl (we_var rfl (os_addL ?_ ?_))))
    · have l1 := lcm_600 ob'.1 oe'.1
      have l2 := lcm_600 ob'.2 oe'.2
      have p1 := prs_len (c := b.1) (e := e.1) (k := slack) (g := 1) (Nat.lcm b.1.p.natAbs e.1.p.natAbs)
      have p2 := prs_len (c := b.2) (e := e.2) (k := sink) (g := -1) (Nat.lcm b.2.p.natAbs e.2.p.natAbs)
      unfold lstD
      rw [List.length_map, List.length_map, List.length_map, List.length_map]
      exact Nat.le_trans (show _ ≤ 2000 by show (prsP b.1 e.1 slack 1 _).length + (prsP b.2 e.2 sink (-1) _).length ≤ 2000; omega) (by decide)
    · rw [List.map_append] at h'
      unfold lstD at h' ⊢
      rw [List.map_append] at h'
      exact h'

theorem ok__law_pair (T : Tx K mg) (D__law_comb : D__law_comb_ P w K mg base) (D__law_pick : D__law_pick_ P w K mg base) {f : Addr} {fd : FuncData} (F : Here K mg "_law_pair" s__law_pair ["jar", "most"] f fd) : D__law_pair_ P w K mg base := by
  refine F.df (fgO F.1 sc__law_pair (fun pl ds k h => ?_) fun cdv B fr s H E hg hr => ⟨_, ((pss_cons (ps_par (i := 2) (j := 3) rfl sc__law_pair.nd rfl rfl (by decide) rfl rfl (pa_cons (pe_callD D__law_comb hg (hr.mono (by decide)) (by rfl) (pa_cons (pv 0) (pa_cons (pv 1) pa_nil))) (pa_cons (pe_callD D__law_comb hg (hr.mono (by decide)) (by rfl) (pa_cons (pv 0) (pa_cons (pv 1) pa_nil))) pa_nil)) (by rfl))
      (pss_cons (ps_if (pt_cmpR (r := rEqU K) (op_eqU hr.units) (pe_callD D__law_pick hg (hr.mono (by decide)) (by rfl) (pa_cons (pv 0) (pa_cons pe_int pa_nil))) pe_int (nomark _)) (pss_one (ps_set (i := 3) sc__law_pair.nd rfl (.inl rfl) (pe_tup (pa_cons (pe_ix (r := rIx K) ix_seq (pv 2) pe_int (fun _ _ => rfl)) (pa_cons (pe_callTy (r := rListQ K) call_list_of (by rfl) T.n_list (by decide +kernel) (pa_cons (pe_ix (r := rIx K) ix_seq (pv 2) pe_int (fun _ _ => rfl)) pa_nil)) pa_nil))))) pss_nil)
      (pss_one (ps_ret (pe_tup (pa_cons (pv 2) (pa_cons (pv 3) pa_nil)))))))), ?_⟩)
  · obtain ⟨a, n, rfl, _⟩ := h; rfl
  · intro c p pl ds k hp h
    obtain ⟨most, n, rfl, ⟨t0, t1⟩, hP, hn, h⟩ := h
    have t0' : 1 ≤ most := t0
    have t1' : most ≤ 24 := t1
    walk_at "nz"
    refine ws_seq (ws_par ?_)
    refine wa_cons (we_pool most rfl hp ?_)
    walk_at "go"
    refine ⟨⟨t0, t1⟩, n, hP, by omega, fun d1 pl1 q1 hP1 => ?_⟩
    obtain ⟨g, rfl, gok⟩ := q1
    refine wa_cons (we_pool most rfl hp ?_)
    walk_at "go"
    refine ⟨⟨t0, t1⟩, n + 100, hP1, by omega, fun d2 pl2 q2 hP2 => ?_⟩
    obtain ⟨g2, rfl, gok2⟩ := q2
    walk_at "nz"
    refine wa_nil ⟨_, _, rfl, ?_⟩
    walk_at "nz"
    refine ws_seq (ws_if (wt_T (we_op ?_)))
    refine we_draw 4 (n + 200) rfl hp ?_
    walk_at "go"
    refine ⟨hP2, by omega, fun v2 pl3 v20 v21 hP3 => ?_⟩
    walk_at "go"
    walk_at "nz"
    refine ite_ws (fun ds' p' => ∃ g3 : Comb, ds' = [some (.v (.ref p)), some (.d (.int most)), some (.d g.d), some (.d g3.d)] ∧ p' = pl3 ∧ g3.Ok) (fun hb => ?_) (fun hb => ?_) ?_
    · walk_at "go"
      refine cb_list ?_
      walk_at "nz"
      refine wa_nil ⟨by show 2 ≤ sizeLine; decide, ?_⟩
      walk_at "nz"
      exact ⟨g, rfl, rfl, gok⟩
    · refine ws_next ?_
      exact ⟨g2, rfl, rfl, gok2⟩
    rintro ds' p' ⟨g3, rfl, rfl, gok3⟩
    walk_at "go"
    exact h _ _ ⟨(g, g3), rfl, gok, gok3⟩ (hP3.up (by show n + 200 + 1 ≤ n + 300; omega))

theorem ok__law_parts (T : Tx K mg) (D__law_rise : D__law_rise_ P w K mg base) {f : Addr} {fd : FuncData} (F : Here K mg "_law_parts" s__law_parts ["one", "two", "first", "other", "steps"] f fd) : D__law_parts_ P w K mg base := by
  refine F.df (fgP F.1 sc__law_parts (fun ds k h => ?_) fun cdv B fr s H E hg hr => ⟨_, ((pss_cons (ps_for PassesOwn.never rfl (pi_enum (by rfl) T.n_enumerate (pa_cons (pv 4) pa_nil)) (pg_tup (n := 2) rfl (pgs_cons (pg_name (i := 5) sc__law_parts.nd rfl (.inl rfl)) (pgs_cons (pg_name (i := 6) sc__law_parts.nd rfl (.inl rfl)) pgs_nil))) (pss_cons (ps_par (i := 7) (j := 8) rfl sc__law_parts.nd rfl rfl (by decide) rfl rfl (pa_cons (pe_callD D__law_rise hg (hr.mono (by decide)) (by rfl) (pa_cons (pv 0) (pa_cons (pv 2) (pa_cons (pv 6) pa_nil)))) (pa_cons (pe_callD D__law_rise hg (hr.mono (by decide)) (by rfl) (pa_cons (pv 1) (pa_cons (pv 3) (pa_cons (pv 6) pa_nil)))) pa_nil)) (by rfl))
      (pss_cons (ps_if (pt_cmpR (r := rNeU K) (op_neU hr.units) (pe_ix (r := rIx K) ix_seq (pv 7) pe_int (fun _ _ => rfl)) (pe_ix (r := rIx K) ix_seq (pv 8) pe_int (fun _ _ => rfl)) (nomark _)) (pss_one (ps_ret (pe_op op_addU (pv 5) pe_int))) pss_nil)
      (pss_one (ps_par (i := 2) (j := 3) rfl sc__law_parts.nd rfl rfl (by decide) rfl rfl (pa_cons (pe_ix (r := rIx K) ix_seq (pv 7) pe_int (fun _ _ => rfl)) (pa_cons (pe_ix (r := rIx K) ix_seq (pv 8) pe_int (fun _ _ => rfl)) pa_nil)) (by rfl))))))
      (pss_one (ps_ret pe_int)))), ?_⟩)
  · obtain ⟨a, rfl, _⟩ := h; rfl
  · intro c ds k hc h
    obtain ⟨⟨⟨⟨v, s⟩, w', t⟩, ms⟩, rfl, ⟨ov, ow, nz⟩, h⟩ := h
    have ov' : v.Ok := ov
    have ow' : w'.Ok := ow
    have nz' : ∀ m ∈ ms, m ≠ 0 := nz
    have h' : k (.int ((prtN v w' s t ms : Nat) : Int)) := h
    walk_at "nz"
    refine ws_seq ?_
    refine ws_forEL (fun i ds' pl' => ∃ (q r : Sv) (b5 b6 b7 b8 : Option W), ds' = [some (.d v.d), some (.d w'.d), some (.d (Sv.d (plc v q))), some (.d (Sv.d (plc w' r))), some (.d (.list (ms.map PyData.int))), b5, b6, b7, b8] ∧ pl' = [] ∧ prtN v w' s t ms = (if prtN v w' q r (ms.drop i) = 0 then 0 else prtN v w' q r (ms.drop i) + i)) (ms.map PyData.int) ?_ ?_ ?_
    · refine wa_cons (we_var rfl (wa_nil ⟨rfl, s, t, _, _, _, _, rfl, rfl, ?_⟩))
      rw [List.drop_zero]
      split
      · assumption
      · rfl
    · rintro i x ds' pl' hx ⟨q, r, b5, b6, b7, b8, rfl, rfl, hF⟩
      obtain ⟨m, hm, rfl⟩ := ints_at hx
      have m0 := nz' m (List.mem_of_getElem? hm)
      have hd : ms.drop i = m :: ms.drop (i + 1) := by
        obtain ⟨hlt, e⟩ := List.getElem?_eq_some_iff.mp hm
        rw [List.drop_eq_getElem_cons hlt, e]
      rw [hd] at hF
      have eq1 : (⟨(plc v q).1, (plc v q).1 - (plc v q).2⟩ : Sv) = ((plc v q).1, (plc v q).1 - (plc v q).2) := rfl
      have pq := plc_start v q
      have pr := plc_start w' r
      have sq := mv_shift ov' pq m
      have sr := mv_shift ow' pr m
      have rq := rs_plc ov' pq m
      have rr := rs_plc ow' pr m
      have gq : plc v (mv v q m) = plc v (mv v ((plc v q).1, (plc v q).1 - (plc v q).2) m) := (plc_shift pq sq).symm
      have gr : plc w' (mv w' r m) = plc w' (mv w' ((plc w' r).1, (plc w' r).1 - (plc w' r).2) m) := (plc_shift pr sr).symm
      obtain ⟨i9, hi9⟩ : ∃ y : Int, (i : Int) = y := ⟨_, rfl⟩
      walk_at "nz"
      rw [hi9]
      refine ws_seq (ws_par (wa_cons (we_det (v, ((plc v q).1, (plc v q).1 - (plc v q).2), m) ?_)))
      refine wa_cons (we_var rfl (wa_cons (we_var rfl (wa_cons (we_var rfl (wa_nil ⟨?_, ⟨ov', m0⟩, ?_⟩))))))
      · show [v.d, Sv.d (plc v q), PyData.int m] = [v.d, .tuple [.int (plc v q).1, .int ((plc v q).1 - ((plc v q).1 - (plc v q).2))], .int m]
        rw [show (plc v q).1 - ((plc v q).1 - (plc v q).2) = (plc v q).2 by omega]
      refine wa_cons (we_det (w', ((plc w' r).1, (plc w' r).1 - (plc w' r).2), m) ?_)
      refine wa_cons (we_var rfl (wa_cons (we_var rfl (wa_cons (we_var rfl (wa_nil ⟨?_, ⟨ow', m0⟩, ?_⟩))))))
      · show [w'.d, Sv.d (plc w' r), PyData.int m] = [w'.d, .tuple [.int (plc w' r).1, .int ((plc w' r).1 - ((plc w' r).1 - (plc w' r).2))], .int m]
        rw [show (plc w' r).1 - ((plc w' r).1 - (plc w' r).2) = (plc w' r).2 by omega]
      refine wa_nil ⟨_, _, rfl, ?_⟩
      rw [show rs (v, ((plc v q).1, (plc v q).1 - (plc v q).2), m).1 (v, ((plc v q).1, (plc v q).1 - (plc v q).2), m).2.1 (v, ((plc v q).1, (plc v q).1 - (plc v q).2), m).2.2 = rs v q m from rq.symm, show plc (v, ((plc v q).1, (plc v q).1 - (plc v q).2), m).1 (mv (v, ((plc v q).1, (plc v q).1 - (plc v q).2), m).1 (v, ((plc v q).1, (plc v q).1 - (plc v q).2), m).2.1 (v, ((plc v q).1, (plc v q).1 - (plc v q).2), m).2.2) = plc v (mv v q m) from gq.symm]
      rw [show rs (w', ((plc w' r).1, (plc w' r).1 - (plc w' r).2), m).1 (w', ((plc w' r).1, (plc w' r).1 - (plc w' r).2), m).2.1 (w', ((plc w' r).1, (plc w' r).1 - (plc w' r).2), m).2.2 = rs w' r m from rr.symm, show plc (w', ((plc w' r).1, (plc w' r).1 - (plc w' r).2), m).1 (mv (w', ((plc w' r).1, (plc w' r).1 - (plc w' r).2), m).1 (w', ((plc w' r).1, (plc w' r).1 - (plc w' r).2), m).2.1 (w', ((plc w' r).1, (plc w' r).1 - (plc w' r).2), m).2.2) = plc w' (mv w' r m) from gr.symm]
      have hP : prtN v w' q r (m :: ms.drop (i + 1)) = if rs v q m = rs w' r m then (if prtN v w' (mv v q m) (mv w' r m) (ms.drop (i + 1)) = 0 then 0 else prtN v w' (mv v q m) (mv w' r m) (ms.drop (i + 1)) + 1) else 1 := rfl
      rw [hP] at hF
      walk_at "nz"
      refine ws_seq (ws_if (wt_B (we_op (we_op (we_var rfl (we_int (os_t0 ?_)))))))
      refine we_op (we_var rfl (we_int (os_t0 (os_neI ?_))))
      walk_at "nz"
      by_cases z : rs v q m = rs w' r m
      · rw [if_pos z] at hF
        refine iteN (by rw [decide_eq_true z]; rfl) ?_
        refine ws_next ?_
        walk_at "nz"
        refine ws_par (wa_cons (we_op (we_var rfl (we_int (os_t1 ?_)))))
        refine wa_cons (we_op (we_var rfl (we_int (os_t1 ?_))))
        refine wa_nil ⟨_, _, rfl, mv v q m, mv w' r m, _, _, _, _, rfl, rfl, ?_⟩
        rw [hF]
        obtain ⟨y, hy⟩ : ∃ y, prtN v w' (mv v q m) (mv w' r m) (ms.drop (i + 1)) = y := ⟨_, rfl⟩
        rw [hy]
        by_cases u : y = 0
        · simp [u]
        · simp [u]
          omega
      · rw [if_neg z, if_neg (by omega)] at hF
        refine iteV (by rw [decide_eq_false z]; rfl) ?_
        refine ws_ret (we_op (we_var rfl (we_int (os_addI ?_))))
        rw [show i9 + 1 = ((prtN v w' s t ms : Nat) : Int) by rw [hF]; omega]
        exact h'
    · rintro ds' pl' ⟨q, r, b5, b6, b7, b8, rfl, rfl, hF⟩
      rw [List.length_map, List.drop_length] at hF
      have hz : prtN v w' s t ms = 0 := hF
      rw [hz] at h'
      walk_at "nz"
      exact ws_ret (we_int h')

theorem ok_check_device (T : Tx K mg) (D_is_comb : D_is_comb_ P w K mg base) (D_is_pair : D_is_pair_ P w K mg base) {f : Addr} {fd : FuncData} (F : Here K mg "check_device" s_check_device ["device"] f fd) : D_check_device_ P w K mg base := by
  refine F.df (fgP F.1 sc_check_device (fun ds k h => ?_) fun cdv B fr s H E hg hr => ⟨_, ((pss_cons (ps_if (pt_not (pt_val (pe_callD D_is_pair hg (hr.mono (by decide)) (by rfl) (pa_cons (pv 0) pa_nil)))) (pss_one ps_never) pss_nil)
      (pss_one (ps_for PassesOwn.never rfl (pi_enumT (by rfl) T.n_enumerate (pa_cons (pv 0) pa_nil)) (pg_tup (n := 2) rfl (pgs_cons (pg_name (i := 1) sc_check_device.nd rfl (.inl rfl)) (pgs_cons (pg_name (i := 2) sc_check_device.nd rfl (.inl rfl)) pgs_nil))) (pss_one (ps_if (pt_not (pt_val (pe_callD D_is_comb hg (hr.mono (by decide)) (by rfl) (pa_cons (pv 2) pa_nil)))) (pss_one ps_never) pss_nil)))))), ?_⟩)
  · obtain ⟨a, rfl, _⟩ := h; rfl
  · intro c ds k hc h
    obtain ⟨⟨g, r⟩, rfl, ok, h⟩ := h
    walk_at "go"
    refine we_det (Dv.d (g, r)) ?_
    walk_at "go"
    refine ws_forET (fun i ds' pl' => ∃ a b, ds' = [some (.d (Dv.d (g, r))), a, b]) [g.d, r.d] ?_ ?_ ?_
    · walk_at "go"
      exact ⟨_, _, rfl⟩
    · rintro i x ds' pl' hx ⟨a, b, rfl⟩
      have hx2 : ∃ cb : Comb, cb.Ok ∧ x = cb.d := by
        match i, hx with
        | 0, hx => exact ⟨g, ok.1, (Option.some.inj hx).symm⟩
        | 1, hx => exact ⟨r, ok.2, (Option.some.inj hx).symm⟩
        | i + 2, hx => simp at hx
      obtain ⟨cb, okc, rfl⟩ := hx2
      walk_at "go"
      refine we_det cb ?_
      walk_at "go"
      refine ⟨okc, ?_⟩
      walk_at "go"
      exact ⟨_, _, rfl⟩
    · rintro ds' pl' ⟨a, b, rfl⟩
      exact h

theorem ok_plain_comb (T : Tx K mg) (D_check_comb : D_check_comb_ P w K mg base) (D_copied_comb : D_copied_comb_ P w K mg base) (D_repeated_teeth : D_repeated_teeth_ P w K mg base) (D_teeth_under : D_teeth_under_ P w K mg base) {f : Addr} {fd : FuncData} (F : Here K mg "plain_comb" s_plain_comb ["comb"] f fd) : D_plain_comb_ P w K mg base := by
  refine F.df (fgP F.1 sc_plain_comb (fun ds k h => ?_) fun cdv B fr s H E hg hr => ⟨_, ((pss_cons (ps_expr (pe_callD D_check_comb hg (hr.mono (by decide)) (by rfl) (pa_cons (pv 0) pa_nil)))
      (pss_cons (ps_asg (pv 0) (pg_tup (n := 2) rfl (pgs_cons (pg_name (i := 1) sc_plain_comb.nd rfl (.inl rfl)) (pgs_cons (pg_name (i := 2) sc_plain_comb.nd rfl (.inl rfl)) pgs_nil))))
      (pss_cons (ps_for PassesOwn.never rfl (pi_range2 (by rfl) T.n_range (pa_cons pe_int (pa_cons (pv 1) pa_nil))) (pg_name (i := 3) sc_plain_comb.nd rfl (.inl rfl)) (pss_one (ps_if (PW.pt (pw_and (pt_cmpR (r := rEqU K) (op_eqU hr.units) (pe_op op_mod (pv 1) (pv 3)) pe_int (nomark _)) (pw_and1 (pt_cmpR (r := rEqU K) (op_eqU hr.units) (pe_callD D_repeated_teeth hg (hr.mono (by decide)) (by rfl) (pa_cons (pv 2) (pa_cons (pv 3) (pa_cons (pv 1) pa_nil)))) (pv 2) (nomark _))))) (pss_one (ps_ret (pe_tup (pa_cons (pv 3) (pa_cons (pe_callD D_teeth_under hg (hr.mono (by decide)) (by rfl) (pa_cons (pv 2) (pa_cons (pv 3) pa_nil))) pa_nil))))) pss_nil)))
      (pss_one (ps_ret (pe_callD D_copied_comb hg (hr.mono (by decide)) (by rfl) (pa_cons (pv 0) pa_nil)))))))), ?_⟩)
  · obtain ⟨a, rfl, _⟩ := h; rfl
  · intro c ds k hc h
    obtain ⟨cb, rfl, ok, h⟩ := h
    have ok' : cb.Ok := ok
    have p1 := ok'.p1
    have p24 := ok'.p24
    have len := ok'.len
    have hb : ∀ b : Comb, b.Ok → (∀ n, caught b n = caught cb n) → b.p ≤ cb.p → cb.p % b.p = 0 → (∀ q, 1 ≤ q → q < b.p → cb.p % q = 0 → ¬ Per cb q) → k b.d := fun b h1 h2 h3 h4 h5 => h _ ⟨b, rfl, h1, h2, h3, h4, h5⟩
    walk_at "go"
    refine we_det cb ?_
    walk_at "go"
    refine ⟨ok', ?_⟩
    walk_at "nz"
    refine ws_seq (ws_unpN rfl (we_var rfl ⟨_, _, rfl, ?_⟩))
    walk_at "nz"
    refine ws_seq ?_
    refine ws_forR2 (fun i ds' p' => ∃ x, ds' = [some (.d cb.d), some (.d (.int cb.p)), some (.d (.list (cb.ts.map PyData.int))), x] ∧ p' = [] ∧ ∀ q : Int, 1 ≤ q → q < 1 + (i : Int) → cb.p % q = 0 → ¬ Per cb q) 1 cb.p ?_ ?_ ?_
    · refine wa_cons (we_int (wa_cons (we_var rfl (wa_nil ⟨rfl, by omega, _, rfl, rfl, fun q a b => by omega⟩))))
    · rintro i ds' p' hi ⟨x, rfl, rfl, lo⟩
      obtain ⟨q, hq⟩ : ∃ q : Int, 1 + (i : Int) = q := ⟨_, rfl⟩
      have q1 : 1 ≤ q := by omega
      have qp : q < cb.p := by omega
      have step : (cb.p % q = 0 → ¬ Per cb q) → ∀ z : Int, 1 ≤ z → z < 1 + ((i + 1 : Nat) : Int) → cb.p % z = 0 → ¬ Per cb z := fun s z z1 z2 => by
        by_cases e : z = q
        · rw [e]; exact s
        · exact lo z z1 (by omega)
      rw [hq]
      walk_at "nz"
      refine ws_if (wt_and (wt_B (we_op (we_op (we_var rfl (we_var rfl ?_))))))
      refine os_mod (show 0 < q by omega) ?_
      refine we_int (os_eqI ?_)
      walk_at "nz"
      refine ite2 (fun hb2 => ?_) (fun hb2 => ?_)
      · have qd : cb.p % q = 0 := of_decide_eq_true hb2
        have hN : (((cb.p.toNat + q.toNat - 1) / q.toNat : Nat) : Int) * q = cb.p := by
          obtain ⟨m, hm⟩ := Int.dvd_of_emod_eq_zero qd
          have m0 : 0 < m := by
            rcases Int.lt_or_le 0 m with z | z
            · exact z
            · have := Int.mul_le_mul_of_nonneg_left z (show 0 ≤ q by omega)
              rw [Int.mul_zero] at this
              omega
          obtain ⟨mn, hmn⟩ : ∃ y : Nat, m = (y : Int) := ⟨m.toNat, by omega⟩
          obtain ⟨qn, hqn⟩ : ∃ y : Nat, q = (y : Int) := ⟨q.toNat, by omega⟩
          have pe : cb.p.toNat = qn * mn := by rw [hm, hmn, hqn, ← Int.natCast_mul]; exact Int.toNat_natCast _
          have qe : q.toNat = qn := by omega
          rw [pe, qe]
          have dv : (qn * mn + qn - 1) / qn = mn := by
            rw [show qn * mn + qn - 1 = (qn - 1) + qn * mn by omega, Nat.add_mul_div_left _ _ (by omega), Nat.div_eq_of_lt (by omega), Nat.zero_add]
          rw [dv, hm, hmn, hqn, Int.mul_comm]
        refine wt_B (we_op ?_)
        refine we_det (cb.ts, q, cb.p) (wa_cons (we_var rfl (wa_cons (we_var rfl (wa_cons (we_var rfl (wa_nil ⟨rfl, ⟨by show cb.ts.length ≤ 24; omega, q1, by show q ≤ 24; omega, by show 0 ≤ cb.p; omega, p24⟩, ?_⟩)))))))
        refine we_var rfl (os_eqUD (ints_shaped _) (ints_shaped _) ?_)
        have per := rep_per ok' q1 qp qd hN
        have eqvI : PyData.eqv (.list ((repT cb.ts q ((cb.p.toNat + q.toNat - 1) / q.toNat)).map PyData.int)) (.list (cb.ts.map PyData.int)) = decide (repT cb.ts q ((cb.p.toNat + q.toNat - 1) / q.toNat) = cb.ts) := eqv_ints _ _
        rw [eqvI]
        walk_at "nz"
        refine ite2 (fun hb3 => ?_) (fun hb3 => ?_)
        · have pr := per.mp (of_decide_eq_true hb3)
          obtain ⟨bo, same⟩ := part_ok ok' q1 qp qd pr
          refine ws_ret (we_tup (wa_cons (we_var rfl (wa_cons ?_))))
          refine we_det (cb.ts, q) (wa_cons (we_var rfl (wa_cons (we_var rfl (wa_nil ⟨rfl, by show cb.ts.length ≤ 24; omega, ?_⟩)))))
          refine wa_nil ⟨by show 2 ≤ sizeLine; decide, ?_⟩
          exact hb ⟨q, under cb.ts q⟩ bo same (by show q ≤ cb.p; omega) qd (fun z z1 z2 => lo z z1 (by have : z < q := z2; omega))
        · refine ws_next ?_
          exact ⟨_, rfl, rfl, step fun _ pr => hb3 (decide_eq_true (per.mpr pr))⟩
      · refine ws_next ?_
        exact ⟨_, rfl, rfl, step fun qd => absurd (decide_eq_true qd) hb2⟩
    · rintro ds' p' ⟨x, rfl, rfl, lo⟩
      walk_at "nz"
      refine ws_ret ?_
      refine we_callW ?_ copyF_mono
      refine wa_cons (we_var rfl (wa_nil ⟨cb, rfl, fun a la n => ⟨cb.d, combP_r n, ?_⟩⟩))
      exact hb cb ok' (fun _ => rfl) (Int.le_refl _) (Int.emod_self) (fun q z1 z2 => lo q z1 (by omega))

theorem ok_check_state (T : Tx K mg) (D_fits_device : D_fits_device_ P w K mg base) {f : Addr} {fd : FuncData} (F : Here K mg "check_state" s_check_state ["device", "state"] f fd) : D_check_state_ P w K mg base := by
  refine F.df (fgP F.1 sc_check_state (fun ds k h => ?_) fun cdv B fr s H E hg hr => ⟨_, ((pss_one (ps_if (pt_not (pt_val (pe_callD D_fits_device hg (hr.mono (by decide)) (by rfl) (pa_cons (pv 0) (pa_cons (pv 1) pa_nil))))) (pss_one ps_never) pss_nil))), ?_⟩)
  · obtain ⟨a, rfl, _⟩ := h; rfl
  · intro c ds k hc h
    obtain ⟨⟨v, s⟩, rfl, ⟨ok, hh⟩, h⟩ := h
    walk_at "go"
    refine we_det (v, s) ?_
    walk_at "go"
    refine ⟨ok, ?_⟩
    have hh' : held v s = true := hh
    rw [hh']
    walk_at "go"
    exact h

theorem ok__law_is_least (T : Tx K mg) (D__law_lists : D__law_lists_ P w K mg base) (D__law_parts : D__law_parts_ P w K mg base) {f : Addr} {fd : FuncData} (F : Here K mg "_law_is_least" s__law_is_least ["one", "two", "first", "other", "told"] f fd) : D__law_is_least_ P w K mg base := by
  refine F.df (fgP F.1 sc__law_is_least (fun ds k h => ?_) fun cdv B fr s H E hg hr => ⟨_, ((pss_cons (ps_set (i := 5) sc__law_is_least.nd rfl (.inl rfl) (pe_callB (r := rSum K) (cr_sum rfl) (by rfl) T.n_sum (by decide +kernel) (pa_cons (pe_lc (own := [("step", 8)]) rfl sc__law_is_least.nd (pi_list (pv 4)) (blkOk_by (N := ["one", "two", "first", "other", "told", "total", "size", "some", "step"]) (sc := defScope s__law_is_least) (by decide +kernel)) (fun _ _ _ _ _ => (pg_name (i := 8) sc__law_is_least.nd rfl (Or.inl rfl) (Or.inr rfl))) (fun _ _ _ _ _ => pts_nil) (fun _ _ _ _ _ => (pe_callB call_abs (by rfl) T.n_abs (by decide +kernel) (pa_cons (pv 8) pa_nil)))) pa_nil)))
      (pss_cons (ps_if (pt_cmpR (r := rEqU K) (op_eqU hr.units) (pe_callB (r := rLenQ K) call_len_seq (by rfl) T.n_len (by decide +kernel) (pa_cons (pv 4) pa_nil)) pe_int (nomark _)) (pss_one (ps_for PassesOwn.never rfl (pi_range2 (by rfl) T.n_range (pa_cons pe_int (pa_cons pe_int pa_nil))) (pg_name (i := 6) sc__law_is_least.nd rfl (.inl rfl)) (pss_one (ps_for PassesOwn.never rfl (pi_list (pe_callD D__law_lists hg (hr.mono (by decide)) (by rfl) (pa_cons pe_int (pa_cons (pv 6) pa_nil)))) (pg_name (i := 7) sc__law_is_least.nd rfl (.inl rfl)) (pss_one (ps_if (pt_cmpR op_gt (pe_callD D__law_parts hg (hr.mono (by decide)) (by rfl) (pa_cons (pv 0) (pa_cons (pv 1) (pa_cons (pv 2) (pa_cons (pv 3) (pa_cons (pv 7) pa_nil)))))) pe_int (nomark _)) (pss_one (ps_ret pe_bl)) pss_nil)))))) pss_nil)
      (pss_cons (ps_for PassesOwn.never rfl (pi_range2 (by rfl) T.n_range (pa_cons (pe_callB (r := rLenQ K) call_len_seq (by rfl) T.n_len (by decide +kernel) (pa_cons (pv 4) pa_nil)) (pa_cons (pe_op op_addU (pv 5) pe_int) pa_nil))) (pg_name (i := 6) sc__law_is_least.nd rfl (.inl rfl)) (pss_one (ps_for PassesOwn.never rfl (pi_list (pe_callD D__law_lists hg (hr.mono (by decide)) (by rfl) (pa_cons (pe_callB (r := rLenQ K) call_len_seq (by rfl) T.n_len (by decide +kernel) (pa_cons (pv 4) pa_nil)) (pa_cons (pv 6) pa_nil)))) (pg_name (i := 7) sc__law_is_least.nd rfl (.inl rfl)) (pss_one (ps_if (PW.pt (pw_and (PW.pt (pw_or (pt_cmpR (r := rLtU K) (op_ltU hr.units) (pv 6) (pv 5) (nomark _)) (pw_or1 (pt_cmpR (r := rLtU K) (op_ltU hr.units) (pv 7) (pv 4) (nomark _))))) (pw_and1 (pt_cmpR op_gt (pe_callD D__law_parts hg (hr.mono (by decide)) (by rfl) (pa_cons (pv 0) (pa_cons (pv 1) (pa_cons (pv 2) (pa_cons (pv 3) (pa_cons (pv 7) pa_nil)))))) pe_int (nomark _))))) (pss_one (ps_ret pe_bl)) pss_nil)))))
      (pss_one (ps_ret pe_bl)))))), ?_⟩)
  · obtain ⟨a, rfl, _⟩ := h; rfl
  · intro c ds k hc h
    obtain ⟨⟨⟨⟨v, s⟩, w', t⟩, ms⟩, rfl, ⟨ov, ow, su, pd⟩, h⟩ := h
    have ov' : v.Ok := ov
    have ow' : w'.Ok := ow
    have su' : (ms.map sz1).sum ≤ 30 := su
    have pd' : PartD v s w' t (.list (ms.map PyData.int)) := pd
    have fin : k (.bool true) := h _ rfl
    obtain ⟨_, _, _, _, l1, l2⟩ := part_looks pd'
    have ps := part_sum pd'
    obtain ⟨tot, htot⟩ : ∃ N : Nat, (ms.map sz1).sum = (N : Int) := ⟨(ms.map sz1).sum.toNat, by omega⟩
    rw [htot] at su' ps
    walk_at "nz"
    refine ws_seq (ws_set (we_cb (wa_cons ?_)))
    refine we_lcM ms PyData.int (fun m => .int (if m < 0 then -m else m)) (Nat.lt_of_le_of_lt l2 (by decide)) (fun xs q => by cases q) ?_ ?_
    case refine_2 =>
      intro p1 m hm pin
      walk_at "nz"
      refine we_cb (wa_cons (we_var rfl (wa_nil (cb_abs ?_))))
      exact ⟨congrArg PyData.int (by show ((m.natAbs : Nat) : Int) = if m < 0 then -m else m; omega), rfl⟩
    refine we_var rfl ⟨rfl, ?_⟩
    rw [show (ms.map fun m => PyData.int (if m < 0 then -m else m)) = (ms.map sz1).map PyData.int by rw [List.map_map]; rfl]
    refine wa_nil (cb_sum ?_)
    rw [htot]
    walk_at "nz"
    refine ws_seqJ (fun ds' p' => ∃ b6 b7 : Option W, ds' = [some (.d v.d), some (.d w'.d), some (.d (Sv.d (plc v s))), some (.d (Sv.d (plc w' t))), some (.d (.list (ms.map PyData.int))), some (.d (.int (tot : Int))), b6, b7, none] ∧ p' = []) ?_ ?_
    · refine ws_if (wt_B (we_op (we_cb (wa_cons (we_var rfl (wa_nil (cb_lenL ?_)))))))
      refine we_int (os_eqI ?_)
      rw [List.length_map]
      walk_at "nz"
      by_cases two : ms.length = 2
      · refine iteV (decide_eq_true (by omega)) ?_
        refine ws_forR2 (fun i ds' pl' => ∃ b6 b7 : Option W, ds' = [some (.d v.d), some (.d w'.d), some (.d (Sv.d (plc v s))), some (.d (Sv.d (plc w' t))), some (.d (.list (ms.map PyData.int))), some (.d (.int (tot : Int))), b6, b7, none] ∧ pl' = []) 1 30 ?_ ?_ ?_
        · exact wa_cons (we_int (wa_cons (we_int (wa_nil ⟨rfl, by decide, _, _, rfl, rfl⟩))))
        · rintro i ds' pl' hi ⟨b6, b7, rfl, rfl⟩
          have hi' : i < 29 := hi
          walk_at "nz"
          refine ws_forL (fun j ds' pl' => ∃ b7 : Option W, ds' = [some (.d v.d), some (.d w'.d), some (.d (Sv.d (plc v s))), some (.d (Sv.d (plc w' t))), some (.d (.list (ms.map PyData.int))), some (.d (.int (tot : Int))), some (.d (.int (1 + (i : Int)))), b7, none] ∧ pl' = []) (lstD (listsL 1 (1 + i))) ?_ ?_ ?_
          · refine we_det (1, 1 + i) (wa_cons (we_int (wa_cons (we_var rfl (wa_nil ⟨by rw [show ((1 + i : Nat) : Int) = 1 + (i : Int) by omega]; rfl, ⟨.inl rfl, by show 1 ≤ 1 + i; omega, by show 1 + i ≤ 100; omega⟩, ?_⟩)))))
            exact ⟨rfl, _, rfl, rfl⟩
          · rintro j x ds' pl' hx ⟨b7, rfl, rfl⟩
            unfold lstD at hx
            rw [List.getElem?_map] at hx
            cases hr : (listsL 1 (1 + i))[j]? with
            | none => rw [hr] at hx; cases hx
            | some r =>
            rw [hr] at hx
            cases hx
            obtain ⟨rl, rz, _⟩ := lists_in (.inl rfl) (by omega) (List.mem_of_getElem? hr)
            have zero : prtN v w' s t r = 0 := by
              match r, rl with
              | [y], _ => exact row_single pd' two (rz y (List.mem_singleton.mpr rfl))
            obtain ⟨i9, hi9⟩ : ∃ y : Int, 1 + (i : Int) = y := ⟨_, rfl⟩
            rw [hi9]
            walk_at "nz"
            refine ws_if (wt_B (we_op (we_det (((v, s), w', t), r) ?_)))
            refine wa_cons (we_var rfl (wa_cons (we_var rfl (wa_cons (we_var rfl (wa_cons (we_var rfl (wa_cons (we_var rfl (wa_nil ⟨rfl, ⟨ov', ow', rz⟩, ?_⟩))))))))))
            rw [show prtN (((v, s), w', t), r).1.1.1 (((v, s), w', t), r).1.2.1 (((v, s), w', t), r).1.1.2 (((v, s), w', t), r).1.2.2 (((v, s), w', t), r).2 = 0 from zero]
            refine we_int (os_gt ?_)
            walk_at "nz"
            refine iteN rfl ?_
            refine ws_next ?_
            exact ⟨_, rfl, rfl⟩
          · rintro ds' pl' ⟨b7, rfl, rfl⟩
            exact ⟨_, _, rfl, rfl⟩
        · rintro ds' pl' ⟨b6, b7, rfl, rfl⟩
          exact ⟨_, _, rfl, rfl⟩
      · refine iteN (decide_eq_false (by omega)) ?_
        refine ws_next ?_
        exact ⟨_, _, rfl, rfl⟩
    rintro ds' p' ⟨b6, b7, rfl, rfl⟩
    obtain ⟨n, hn⟩ : ∃ n, ms.length = n := ⟨_, rfl⟩
    walk_at "nz"
    refine ws_seq ?_
    refine ws_forR2 (fun i ds' pl' => ∃ b6 b7 : Option W, ds' = [some (.d v.d), some (.d w'.d), some (.d (Sv.d (plc v s))), some (.d (Sv.d (plc w' t))), some (.d (.list (ms.map PyData.int))), some (.d (.int (tot : Int))), b6, b7, none] ∧ pl' = []) (n : Int) ((tot : Int) + 1) ?_ ?_ ?_
    · refine wa_cons (we_cb (wa_cons (we_var rfl (wa_nil (cb_lenL ?_)))))
      rw [List.length_map, hn]
      exact wa_cons (we_op (we_var rfl (we_int (os_addI (wa_nil ⟨rfl, by omega, _, _, rfl, rfl⟩)))))
    · rintro i ds' pl' hi ⟨b6, b7, rfl, rfl⟩
      have hi' : i < ((tot : Int) + 1 - (n : Int)).toNat := hi
      have n12 : n = 1 ∨ n = 2 := by omega
      walk_at "nz"
      refine ws_forL (fun j ds' pl' => ∃ b7 : Option W, ds' = [some (.d v.d), some (.d w'.d), some (.d (Sv.d (plc v s))), some (.d (Sv.d (plc w' t))), some (.d (.list (ms.map PyData.int))), some (.d (.int (tot : Int))), some (.d (.int ((n : Int) + (i : Int)))), b7, none] ∧ pl' = []) (lstD (listsL n (n + i))) ?_ ?_ ?_
      · refine we_det (n, n + i) (wa_cons (we_cb (wa_cons (we_var rfl (wa_nil (cb_lenL ?_))))))
        rw [List.length_map, hn]
        refine wa_cons (we_var rfl (wa_nil ⟨by rw [show ((n + i : Nat) : Int) = (n : Int) + (i : Int) by omega], ⟨n12, by show 1 ≤ n + i; omega, by show n + i ≤ 100; omega⟩, ?_⟩))
        exact ⟨rfl, _, rfl, rfl⟩
      · rintro j x ds' pl' hx ⟨b7, rfl, rfl⟩
        unfold lstD at hx
        rw [List.getElem?_map] at hx
        cases hr : (listsL n (n + i))[j]? with
        | none => rw [hr] at hx; cases hx
        | some r =>
        rw [hr] at hx
        cases hx
        obtain ⟨rl, rz, rs'⟩ := lists_in n12 (by omega) (List.mem_of_getElem? hr)
        obtain ⟨z9, hz9⟩ : ∃ y : Int, (n : Int) + (i : Int) = y := ⟨_, rfl⟩
        have rs2 : (r.map sz1).sum = z9 := by rw [rs']; omega
        rw [hz9]
        walk_at "nz"
        refine ws_if (wt_and (wt_or (wt_B (we_op (we_var rfl (we_var rfl (os_ltUI ?_)))))))
        have zero : PySem.W.dataLt (rkD r) (rkD ms) = true → prtN v w' s t r = 0 := fun hq => by
          refine Classical.byContradiction fun ne => ?_
          rw [row_parts pd' rz (by omega) ne] at hq
          cases hq
        walk_at "nz"
        by_cases a : z9 < (tot : Int)
        · refine iteV (decide_eq_true a) ?_
          have z0 := zero (lt_less r ms (by omega))
          walk_at "nz"
          refine iteV rfl ?_
          refine wt_B (we_op (we_det (((v, s), w', t), r) ?_))
          refine wa_cons (we_var rfl (wa_cons (we_var rfl (wa_cons (we_var rfl (wa_cons (we_var rfl (wa_cons (we_var rfl (wa_nil ⟨rfl, ⟨ov', ow', rz⟩, ?_⟩))))))))))
          rw [show prtN (((v, s), w', t), r).1.1.1 (((v, s), w', t), r).1.2.1 (((v, s), w', t), r).1.1.2 (((v, s), w', t), r).1.2.2 (((v, s), w', t), r).2 = 0 from z0]
          refine we_int (os_gt ?_)
          walk_at "nz"
          refine iteN rfl ?_
          refine ws_next ?_
          exact ⟨_, rfl, rfl⟩
        · refine iteN (decide_eq_false a) ?_
          refine wt_B (we_op (we_var rfl (we_var rfl (os_ltUL ?_))))
          cases hb : PySem.W.dataLt (.list (r.map PyData.int)) (.list (ms.map PyData.int)) with
          | true =>
            have z0 := zero (lt_same r ms (by omega) hb)
            walk_at "nz"
            refine iteV rfl ?_
            refine wt_B (we_op (we_det (((v, s), w', t), r) ?_))
            refine wa_cons (we_var rfl (wa_cons (we_var rfl (wa_cons (we_var rfl (wa_cons (we_var rfl (wa_cons (we_var rfl (wa_nil ⟨rfl, ⟨ov', ow', rz⟩, ?_⟩))))))))))
            rw [show prtN (((v, s), w', t), r).1.1.1 (((v, s), w', t), r).1.2.1 (((v, s), w', t), r).1.1.2 (((v, s), w', t), r).1.2.2 (((v, s), w', t), r).2 = 0 from z0]
            refine we_int (os_gt ?_)
            walk_at "nz"
            refine iteN rfl ?_
            refine ws_next ?_
            exact ⟨_, rfl, rfl⟩
          | false =>
            walk_at "nz"
            refine iteN rfl ?_
            refine ws_next ?_
            exact ⟨_, rfl, rfl⟩
      · rintro ds' pl' ⟨b7, rfl, rfl⟩
        exact ⟨_, _, rfl, rfl⟩
    · rintro ds' pl' ⟨b6, b7, rfl, rfl⟩
      walk_at "nz"
      exact ws_ret (we_bl fin)

theorem ok_check_begun (T : Tx K mg) (D_check_device : D_check_device_ P w K mg base) (D_check_state : D_check_state_ P w K mg base) {f : Addr} {fd : FuncData} (F : Here K mg "check_begun" s_check_begun ["device", "state"] f fd) : D_check_begun_ P w K mg base := by
  refine F.df (fgP F.1 sc_check_begun (fun ds k h => ?_) fun cdv B fr s H E hg hr => ⟨_, ((pss_cons (ps_expr (pe_callD D_check_device hg (hr.mono (by decide)) (by rfl) (pa_cons (pv 0) pa_nil)))
      (pss_one (ps_expr (pe_callD D_check_state hg (hr.mono (by decide)) (by rfl) (pa_cons (pv 0) (pa_cons (pv 1) pa_nil))))))), ?_⟩)
  · obtain ⟨a, rfl, _⟩ := h; rfl
  · intro c ds k hc h
    obtain ⟨⟨v, s⟩, rfl, ⟨ok, hh⟩, h⟩ := h
    walk_at "go"
    refine we_det v ?_
    walk_at "go"
    refine ⟨ok, ?_⟩
    walk_at "go"
    refine we_det (v, s) ?_
    walk_at "go"
    refine ⟨⟨ok, hh⟩, ?_⟩
    walk_at "go"
    exact h

theorem ok_shifted_comb (T : Tx K mg) (D_plain_comb : D_plain_comb_ P w K mg base) {f : Addr} {fd : FuncData} (F : Here K mg "shifted_comb" s_shifted_comb ["comb", "distance"] f fd) : D_shifted_comb_ P w K mg base := by
  refine F.df (fgP F.1 sc_shifted_comb (fun ds k h => ?_) fun cdv B fr s H E hg hr => ⟨_, ((pss_cons (ps_asg (pv 0) (pg_tup (n := 2) rfl (pgs_cons (pg_name (i := 2) sc_shifted_comb.nd rfl (.inr rfl)) (pgs_cons (pg_name (i := 3) sc_shifted_comb.nd rfl (.inl rfl)) pgs_nil))))
      (pss_one (ps_ret (pe_callD D_plain_comb hg (hr.mono (by decide)) (by rfl) (pa_cons (pe_tup (pa_cons (pv 2) (pa_cons (pe_callB (r := rSortedI K) cr_sortedI (by rfl) T.n_sorted (by decide +kernel) (pa_cons (pe_lc (own := [("tooth", 4)]) rfl sc_shifted_comb.nd (pi_list (pv 3)) (blkOk_by (N := ["comb", "distance", "pitch", "teeth", "tooth"]) (sc := defScope s_shifted_comb) (by decide +kernel)) (fun _ _ _ _ _ => (pg_name (i := 4) sc_shifted_comb.nd rfl (Or.inl rfl) (Or.inr rfl))) (fun _ _ _ _ _ => pts_nil) (fun _ _ _ _ _ => (pe_op op_mod (pe_op op_sub (pv 4) (pv 1)) (pv 2)))) pa_nil)) pa_nil))) pa_nil)))))), ?_⟩)
  · obtain ⟨a, rfl, _⟩ := h; rfl
  · intro c ds k hc h
    obtain ⟨⟨cb, d⟩, rfl, ok, h⟩ := h
    have ok' : cb.Ok := ok
    have p1 : 0 < cb.p := by have := Comb.Ok.p1 ok'; omega
    have p24 := ok'.p24
    have l1 := sorted_len ok'.up ok'.low ok'.high
    have fin : ∀ b : Comb, Plain b → (∀ n, caught b n = caught cb (n + d)) → k b.d := fun b h1 h2 => h _ ⟨b, rfl, h1, h2⟩
    walk_at "nz"
    refine ws_seq (ws_unpN rfl (we_var rfl ⟨_, _, rfl, ?_⟩))
    walk_at "nz"
    refine ws_ret (we_relE ?_)
    refine wa_cons (we_tup (wa_cons (we_var rfl (wa_cons (we_cb (wa_cons ?_))))))
    refine we_lcM cb.ts PyData.int (fun t => PyData.int ((t - d) % cb.p)) (Nat.lt_of_le_of_lt (show _ ≤ 100 by omega) (by decide)) (no_of rfl _) ?_ ?_
    · refine we_var rfl ⟨rfl, ?_⟩
      rw [show (cb.ts.map fun t => PyData.int ((t - d) % cb.p)) = (cb.ts.map fun t => (t - d) % cb.p).map PyData.int by rw [List.map_map]; rfl]
      refine wa_nil (cb_sortedI fun S pm up => ?_)
      obtain ⟨okS, catS⟩ := shift_ok ok' d pm up
      refine wa_nil ⟨by show 2 ≤ sizeLine; decide, ?_⟩
      refine wa_nil ⟨Comb.mk cb.p S, rfl, okS, fun d2 q2 => ?_⟩
      obtain ⟨b, rfl, ob, same, h1, h2, h3⟩ := q2
      exact fin b (plain_of ob same h1 h2 h3) fun n => by rw [same, catS]
    · intro p' t ht pin
      walk_at "go"
      refine os_mod p1 ?_
      exact ⟨rfl, rfl⟩

theorem ok_check_both (T : Tx K mg) (D_check_begun : D_check_begun_ P w K mg base) {f : Addr} {fd : FuncData} (F : Here K mg "check_both" s_check_both ["device", "state", "second", "start"] f fd) : D_check_both_ P w K mg base := by
  refine F.df (fgP F.1 sc_check_both (fun ds k h => ?_) fun cdv B fr s H E hg hr => ⟨_, ((pss_cons (ps_expr (pe_callD D_check_begun hg (hr.mono (by decide)) (by rfl) (pa_cons (pv 0) (pa_cons (pv 1) pa_nil))))
      (pss_one (ps_expr (pe_callD D_check_begun hg (hr.mono (by decide)) (by rfl) (pa_cons (pv 2) (pa_cons (pv 3) pa_nil))))))), ?_⟩)
  · obtain ⟨a, rfl, _⟩ := h; rfl
  · intro c ds k hc h
    obtain ⟨⟨⟨v, s⟩, w', t⟩, rfl, ⟨hv, hw⟩, h⟩ := h
    walk_at "go"
    refine we_det (v, s) ?_
    walk_at "go"
    refine ⟨hv, ?_⟩
    walk_at "go"
    refine we_det (w', t) ?_
    walk_at "go"
    exact ⟨hw, h⟩

theorem ok_shifted_device (T : Tx K mg) (D_shifted_comb : D_shifted_comb_ P w K mg base) {f : Addr} {fd : FuncData} (F : Here K mg "shifted_device" s_shifted_device ["device", "state"] f fd) : D_shifted_device_ P w K mg base := by
  refine F.df (fgP F.1 sc_shifted_device (fun ds k h => ?_) fun cdv B fr s H E hg hr => ⟨_, ((pss_cons (ps_asg (pv 0) (pg_tup (n := 2) rfl (pgs_cons (pg_name (i := 2) sc_shifted_device.nd rfl (.inl rfl)) (pgs_cons (pg_name (i := 3) sc_shifted_device.nd rfl (.inl rfl)) pgs_nil))))
      (pss_cons (ps_asg (pv 1) (pg_tup (n := 2) rfl (pgs_cons (pg_name (i := 4) sc_shifted_device.nd rfl (.inl rfl)) (pgs_cons (pg_name (i := 5) sc_shifted_device.nd rfl (.inl rfl)) pgs_nil))))
      (pss_one (ps_ret (pe_tup (pa_cons (pe_callD D_shifted_comb hg (hr.mono (by decide)) (by rfl) (pa_cons (pv 2) (pa_cons (pv 4) pa_nil))) (pa_cons (pe_callD D_shifted_comb hg (hr.mono (by decide)) (by rfl) (pa_cons (pv 3) (pa_cons (pe_op op_sub (pv 4) (pv 5)) pa_nil))) pa_nil)))))))), ?_⟩)
  · obtain ⟨a, rfl, _⟩ := h; rfl
  · intro c ds k hc h
    obtain ⟨⟨v, s⟩, rfl, ok, h⟩ := h
    have ok' : v.Ok := ok
    walk_at "nz"
    refine ws_seq (ws_unpN rfl (we_var rfl ⟨_, _, rfl, ?_⟩))
    walk_at "nz"
    refine ws_seq (ws_unpN rfl (we_var rfl ⟨_, _, rfl, ?_⟩))
    walk_at "nz"
    refine ws_ret (we_tup (wa_cons (we_rel (v.1, s.1) ?_)))
    refine wa_cons (we_var rfl (wa_cons (we_var rfl (wa_nil ⟨rfl, ok'.1, fun d1 q1 => ?_⟩))))
    obtain ⟨b1, rfl, pb1, c1⟩ := q1
    refine wa_cons (we_rel (v.2, s.1 - s.2) ?_)
    refine wa_cons (we_var rfl (wa_cons (we_op (we_var rfl (we_var rfl (os_sub ?_))))))
    refine wa_nil ⟨rfl, ok'.2, fun d2 q2 => ?_⟩
    obtain ⟨b2, rfl, pb2, c2⟩ := q2
    refine wa_nil ⟨by show 2 ≤ sizeLine; decide, ?_⟩
    exact h _ ⟨(b1, b2), rfl, pb1, pb2, c1, c2⟩

theorem ok_are_alike (T : Tx K mg) (D_check_both : D_check_both_ P w K mg base) (D_shifted_device : D_shifted_device_ P w K mg base) {f : Addr} {fd : FuncData} (F : Here K mg "are_alike" s_are_alike ["device", "state", "second", "start"] f fd) : D_are_alike_ P w K mg base := by
  refine F.df (fgP F.1 sc_are_alike (fun ds k h => ?_) fun cdv B fr s H E hg hr => ⟨_, ((pss_cons (ps_expr (pe_callD D_check_both hg (hr.mono (by decide)) (by rfl) (pa_cons (pv 0) (pa_cons (pv 1) (pa_cons (pv 2) (pa_cons (pv 3) pa_nil))))))
      (pss_one (ps_ret (pe_cmpR (r := rEqU K) (op_eqU hr.units) (pe_callD D_shifted_device hg (hr.mono (by decide)) (by rfl) (pa_cons (pv 0) (pa_cons (pv 1) pa_nil))) (pe_callD D_shifted_device hg (hr.mono (by decide)) (by rfl) (pa_cons (pv 2) (pa_cons (pv 3) pa_nil))) (nomark _)))))), ?_⟩)
  · obtain ⟨a, rfl, _⟩ := h; rfl
  · intro c ds k hc h
    obtain ⟨⟨⟨v, s⟩, w', t⟩, rfl, ⟨hv, hw⟩, h⟩ := h
    walk_at "go"
    refine we_det ((v, s), w', t) ?_
    walk_at "go"
    refine ⟨⟨hv, hw⟩, ?_⟩
    walk_at "go"
    refine we_rel (v, s) ?_
    walk_at "go"
    refine ⟨hv.1, fun d1 q1 => ?_⟩
    obtain ⟨b, rfl, p1, p2, c1, c2⟩ := q1
    refine we_rel (w', t) ?_
    walk_at "go"
    refine ⟨hw.1, fun d2 q2 => ?_⟩
    obtain ⟨e, rfl, r1, r2, e1, e2⟩ := q2
    refine os_eqUD (shaped_of (Dv.Ok.okD (v := b) ⟨p1.1, p2.1⟩ 17)) (shaped_of (Dv.Ok.okD (v := e) ⟨r1.1, r2.1⟩ 17)) ?_
    refine h _ ⟨_, rfl, (eqv_dev b e).trans ⟨fun z => ?_, fun ⟨z1, z2⟩ => ?_⟩⟩
    · subst z
      exact ⟨fun n => by rw [← c1, e1], fun n => by rw [← c2, e2]⟩
    · exact Prod.ext (p1.uniq r1 fun n => by rw [c1, e1]; exact z1 n) (p2.uniq r2 fun n => by rw [c2, e2]; exact z2 n)

theorem ok_parting_moves (T : Tx K mg) (D_check_both : D_check_both_ P w K mg base) (D_device_slacks : D_device_slacks_ P w K mg base) (D_double_partings : D_double_partings_ P w K mg base) (D_parting_rank : D_parting_rank_ P w K mg base) (D_shifted_device : D_shifted_device_ P w K mg base) (D_single_partings : D_single_partings_ P w K mg base) {f : Addr} {fd : FuncData} (F : Here K mg "parting_moves" s_parting_moves ["device", "state", "second", "start"] f fd) : D_parting_moves_ P w K mg base := by
  refine F.df (fgNo F.1 sc_parting_moves (fun ds k h => ?_) fun cdv B fr s H E hg hr => ⟨_, ((pss_cons (ps_expr (pe_callD D_check_both hg (hr.mono (by decide)) (by rfl) (pa_cons (pv 0) (pa_cons (pv 1) (pa_cons (pv 2) (pa_cons (pv 3) pa_nil))))))
      (pss_cons (ps_set (i := 4) sc_parting_moves.nd rfl (.inl rfl) (pe_callD D_device_slacks hg (hr.mono (by decide)) (by rfl) (pa_cons (pe_callD D_shifted_device hg (hr.mono (by decide)) (by rfl) (pa_cons (pv 0) (pa_cons (pv 1) pa_nil))) pa_nil)))
      (pss_cons (ps_set (i := 5) sc_parting_moves.nd rfl (.inl rfl) (pe_callD D_device_slacks hg (hr.mono (by decide)) (by rfl) (pa_cons (pe_callD D_shifted_device hg (hr.mono (by decide)) (by rfl) (pa_cons (pv 2) (pa_cons (pv 3) pa_nil))) pa_nil)))
      (pss_cons (ps_set (i := 6) sc_parting_moves.nd rfl (.inl rfl) (pe_callD D_single_partings hg (hr.mono (by decide)) (by rfl) (pa_cons (pv 4) (pa_cons (pv 5) pa_nil))))
      (pss_cons (ps_if (pt_cmpR (r := rEqU K) (op_eqU hr.units) (pe_callB (r := rLenQ K) call_len_seq (by rfl) T.n_len (by decide +kernel) (pa_cons (pv 6) pa_nil)) pe_int (nomark _)) (pss_one (ps_set (i := 6) sc_parting_moves.nd rfl (.inl rfl) (pe_callD D_double_partings hg (hr.mono (by decide)) (by rfl) (pa_cons (pv 4) (pa_cons (pv 5) pa_nil))))) pss_nil)
      (pss_cons (ps_if (pt_cmpR (r := rEqU K) (op_eqU hr.units) (pe_callB (r := rLenQ K) call_len_seq (by rfl) T.n_len (by decide +kernel) (pa_cons (pv 6) pa_nil)) pe_int (nomark _)) (pss_one (ps_ret pe_non)) pss_nil)
      (pss_one (ps_ret (pe_minK D_parting_rank hg (hr.mono (by decide)) (by rfl) T.n_min (by rfl) (pa_cons (pv 6) pa_nil))))))))))), ?_⟩)
  · obtain ⟨a, rfl, _⟩ := h; rfl
  · intro c ds k hc h
    obtain ⟨⟨⟨v, s⟩, w', t⟩, rfl, ⟨hv, hw⟩, h⟩ := h
    have ov : v.Ok := hv.1
    have ow : w'.Ok := hw.1
    have h' : ∀ o, PartO v s w' t o → k o := h
    walk_at "nz"
    refine ws_seq (ws_drop (we_det ((v, s), w', t) ?_))
    refine wa_cons (we_var rfl (wa_cons (we_var rfl (wa_cons (we_var rfl (wa_cons (we_var rfl (wa_nil ⟨rfl, ⟨hv, hw⟩, ?_⟩))))))))
    walk_at "nz"
    refine ws_seq (ws_set (we_detE (wa_cons (we_rel (v, s) ?_))))
    refine wa_cons (we_var rfl (wa_cons (we_var rfl (wa_nil ⟨rfl, ov, fun d1 q1 => ?_⟩))))
    obtain ⟨b, rfl, pb1, pb2, cb1, cb2⟩ := q1
    have hb : SeenAs v s b := .of ov ⟨pb1.1, pb2.1⟩ cb1 cb2
    refine wa_nil ⟨b, rfl, hb.okb, ?_⟩
    walk_at "nz"
    refine ws_seq (ws_set (we_detE (wa_cons (we_rel (w', t) ?_))))
    refine wa_cons (we_var rfl (wa_cons (we_var rfl (wa_nil ⟨rfl, ow, fun d2 q2 => ?_⟩))))
    obtain ⟨e, rfl, pe1, pe2, ce1, ce2⟩ := q2
    have he : SeenAs w' t e := .of ow ⟨pe1.1, pe2.1⟩ ce1 ce2
    refine wa_nil ⟨e, rfl, he.okb, ?_⟩
    walk_at "nz"
    obtain ⟨L1, hL1⟩ : ∃ L, sglI b e = L := ⟨_, rfl⟩
    obtain ⟨N, hN⟩ : ∃ N, Nat.lcm b.1.p.natAbs e.1.p.natAbs = N := ⟨_, rfl⟩
    obtain ⟨M, hM⟩ : ∃ M, Nat.lcm b.2.p.natAbs e.2.p.natAbs = M := ⟨_, rfl⟩
    have N1 := lcm_pos hb.okb.1 he.okb.1
    have N6 := lcm_600 hb.okb.1 he.okb.1
    obtain ⟨d1, d2⟩ := lcm_mod hb.okb.1 he.okb.1
    have M1 := lcm_pos hb.okb.2 he.okb.2
    have M6 := lcm_600 hb.okb.2 he.okb.2
    obtain ⟨d3, d4⟩ := lcm_mod hb.okb.2 he.okb.2
    rw [hN] at N1 N6 d1 d2
    rw [hM] at M1 M6 d3 d4
    have sn := sgl_not hb.okb he.okb
    have dn := dbl_not hb.okb he.okb N M
    rw [hL1] at sn
    cases L1 with
    | cons x r =>
      refine ws_of_wsk fun G0 D' ft => ?_
      refine wsk_sq (wsk_setNew (i1 := 4) (i2 := 5) (b := b) (e := e) (L := (x :: r).map fun x => [x]) rfl rfl ⟨(b, e), rfl, ⟨hb.okb, he.okb⟩, by show _ = _; rw [← hL1]⟩ det_mono sn (by simp) (Ex.refl _) fun Gk u ek hnew => wsk_go ?_)
      walk_at "nz"
      refine wsk_sq (wsk_ifLen rfl hnew (Ex.refl _) (by simp) (wsk_go ?_))
      walk_at "nz"
      refine wsk_sq (wsk_ifLen rfl hnew (Ex.refl _) (by simp) (wsk_go ?_))
      walk_at "nz"
      refine wsk_retMin rkOf rfl hnew (Ex.refl _) ek hc ft (by simp) (lst_F ((x :: r).map fun x => [x]) (fun q hq => by obtain ⟨a, _, rfl⟩ := List.mem_map.mp hq; show 1 ≤ 10; decide)) det_mono (lst_al ((x :: r).map fun x => [x])) fun q hq => ?_
      obtain ⟨a, ha, ea, lo⟩ := best_of (fun x : Int => [x]) lt1 (fun a b => rk_1 a b) lt1_irr lt1_tr (x :: r) (lst_ey (fun x : Int => [x]) (x :: r)) _ hq
      have eq : q = [a] := ints_inj (PyData.list.inj ea)
      subst eq
      exact h' (some [.int a]) (told_single hb he (by rw [hL1]; exact ha) fun y hy => lo y (by rw [← hL1]; exact hy))
    | nil =>
      refine ws_seq (ws_set (we_det (b, e) ?_))
      refine wa_cons (we_var rfl (wa_cons (we_var rfl (wa_nil ⟨rfl, ⟨hb.okb, he.okb⟩, ?_⟩))))
      rw [show sglI (b, e).1 (b, e).2 = [] from hL1]
      walk_at "nz"
      obtain ⟨L2, hL2⟩ : ∃ L, dblP b e N M = L := ⟨_, rfl⟩
      rw [hL2] at dn
      cases L2 with
      | nil =>
        refine ws_seq (ws_if (wt_B (we_op (we_cb (wa_cons (we_var rfl (wa_nil (cb_lenL ?_))))))))
        refine we_int (os_eqI ?_)
        refine iteV rfl ?_
        refine ws_set (we_det (b, e) ?_)
        refine wa_cons (we_var rfl (wa_cons (we_var rfl (wa_nil ⟨rfl, ⟨hb.okb, he.okb⟩, ?_⟩))))
        rw [show (Nat.lcm (b, e).1.1.p.natAbs (b, e).2.1.p.natAbs) = N from hN, show (Nat.lcm (b, e).1.2.p.natAbs (b, e).2.2.p.natAbs) = M from hM]
        rw [show dblP (b, e).1 (b, e).2 N M = [] from hL2]
        walk_at "nz"
        refine ws_seq (ws_if (wt_B (we_op (we_cb (wa_cons (we_var rfl (wa_nil (cb_lenL ?_))))))))
        refine we_int (os_eqI ?_)
        refine iteV rfl ?_
        walk_at "nz"
        exact ws_ret (we_non (h' none (told_none hb he N1 M1 d1 d2 d3 d4 hL1 hL2)))
      | cons x r =>
        refine ws_of_wsk fun G0 D' ft => ?_
        refine wsk_sq (wsk_if (wt_B (we_op (we_cb (wa_cons (we_var rfl (wa_nil (cb_lenL ?_))))))))
        refine we_int (os_eqI ?_)
        refine iteV rfl ?_
        refine wsk_setNew (i1 := 4) (i2 := 5) (b := b) (e := e) (L := (x :: r).map fun p => [p.1, p.2]) rfl rfl ⟨(b, e), rfl, ⟨hb.okb, he.okb⟩, ?_⟩ det_mono dn (by simp) (Ex.refl _) fun Gk u ek hnew => wsk_go ?_
        · show PyData.list (lstD ((dblP b e (Nat.lcm b.1.p.natAbs e.1.p.natAbs) (Nat.lcm b.2.p.natAbs e.2.p.natAbs)).map fun p => [p.1, p.2])) = _
          rw [hN, hM, hL2]
        walk_at "nz"
        refine wsk_sq (wsk_ifLen rfl hnew (Ex.refl _) (by simp) (wsk_go ?_))
        walk_at "nz"
        refine wsk_retMin rkOf rfl hnew (Ex.refl _) ek hc ft (by simp) (lst_F ((x :: r).map fun p => [p.1, p.2]) (fun q hq => by obtain ⟨a, _, rfl⟩ := List.mem_map.mp hq; show 2 ≤ 10; decide)) det_mono (lst_al ((x :: r).map fun p => [p.1, p.2])) fun q hq => ?_
        obtain ⟨a, ha, ea, lo⟩ := best_of (fun p : Int × Int => [p.1, p.2]) lt2 (fun a b => rk_2 a.1 a.2 b.1 b.2) lt2_irr lt2_tr (x :: r) (lst_ey (fun p : Int × Int => [p.1, p.2]) (x :: r)) _ hq
        have eq : q = [a.1, a.2] := ints_inj (PyData.list.inj ea)
        subst eq
        exact h' (some [.int a.1, .int a.2]) (told_double hb he N6 M6 N1 M1 d1 d2 d3 d4 hL1 (by rw [hL2]; exact ha) fun q hq => lo q (by rw [← hL2]; exact hq))

theorem ok__law_right (T : Tx K mg) (D__law_begin : D__law_begin_ P w K mg base) (D__law_comb : D__law_comb_ P w K mg base) (D__law_is_least : D__law_is_least_ P w K mg base) (D__law_pair : D__law_pair_ P w K mg base) (D__law_parts : D__law_parts_ P w K mg base) (D__law_pick : D__law_pick_ P w K mg base) (D__law_stand : D__law_stand_ P w K mg base) (D_are_alike : D_are_alike_ P w K mg base) (D_parting_moves : D_parting_moves_ P w K mg base) {f : Addr} {fd : FuncData} (F : Here K mg "_law_right" s__law_right ["jar", "most", "is_small"] f fd) : D__law_right_ P w K mg base := by
  refine F.df (fgO F.1 sc__law_right (fun pl ds k h => ?_) fun cdv B fr s H E hg hr => ⟨_, ((pss_cons (ps_set (i := 3) sc__law_right.nd rfl (.inl rfl) (pe_callD D__law_pair hg (hr.mono (by decide)) (by rfl) (pa_cons (pv 0) (pa_cons (pv 1) pa_nil))))
      (pss_cons (ps_par3 (i := 4) (j := 5) (l := 6) rfl sc__law_right.nd rfl rfl rfl (by decide) (by decide) (by decide) rfl rfl rfl (pa_cons (pe_callD D__law_stand hg (hr.mono (by decide)) (by rfl) (pa_cons (pv 0) (pa_cons (pv 3) (pa_cons pe_int pa_nil)))) (pa_cons (pv 3) (pa_cons (pe_callD D__law_pick hg (hr.mono (by decide)) (by rfl) (pa_cons (pv 0) (pa_cons pe_int pa_nil))) pa_nil))) (by rfl))
      (pss_cons (ps_if (pt_cmpR (r := rEqU K) (op_eqU hr.units) (pv 6) pe_int (nomark _)) (pss_one (ps_set (i := 5) sc__law_right.nd rfl (.inl rfl) (pe_callD D__law_pair hg (hr.mono (by decide)) (by rfl) (pa_cons (pv 0) (pa_cons (pv 1) pa_nil))))) (pss_one (ps_if (pt_cmpR (r := rEqU K) (op_eqU hr.units) (pv 6) pe_int (nomark _)) (pss_one (ps_set (i := 5) sc__law_right.nd rfl (.inl rfl) (pe_tup (pa_cons (pe_ix (r := rIx K) ix_seq (pv 3) pe_int (fun _ _ => rfl)) (pa_cons (pe_callD D__law_comb hg (hr.mono (by decide)) (by rfl) (pa_cons (pv 0) (pa_cons (pv 1) pa_nil))) pa_nil))))) (pss_one (ps_if (pt_cmpR (r := rEqU K) (op_eqU hr.units) (pv 6) pe_int (nomark _)) (pss_one (ps_set (i := 5) sc__law_right.nd rfl (.inl rfl) (pe_tup (pa_cons (pe_callD D__law_comb hg (hr.mono (by decide)) (by rfl) (pa_cons (pv 0) (pa_cons (pv 1) pa_nil))) (pa_cons (pe_ix (r := rIx K) ix_seq (pv 3) pe_int (fun _ _ => rfl)) pa_nil))))) pss_nil)))))
      (pss_cons (ps_par (i := 7) (j := 8) rfl sc__law_right.nd rfl rfl (by decide) rfl rfl (pa_cons (pe_callD D__law_stand hg (hr.mono (by decide)) (by rfl) (pa_cons (pv 0) (pa_cons (pv 5) (pa_cons (pe_ix (r := rIx K) ix_seq (pe_lst (pa_cons pe_int (pa_cons (pe_op op_powW pe_int pe_int) pa_nil))) (pe_callD D__law_pick hg (hr.mono (by decide)) (by rfl) (pa_cons (pv 0) (pa_cons pe_int pa_nil))) (fun _ _ => rfl)) pa_nil)))) (pa_cons (pe_callB (r := rRepr K) (call_repr hg hr.units) (by rfl) T.n_repr (by decide +kernel) (pa_cons (pe_lst (pa_cons (pv 3) (pa_cons (pv 5) pa_nil))) pa_nil)) pa_nil)) (by rfl))
      (pss_cons (ps_set (i := 9) sc__law_right.nd rfl (.inl rfl) (pe_callKP D_parting_moves T.k_parting_moves_kw_start_second_state_device hg (hr.mono (by decide)) (by rfl) (pk_cons (pv 7) (pk_cons (pv 5) (pk_cons (pv 4) (pk_cons (pv 3) pk_nil))))))
      (pss_cons (ps_if (PW.pt (pw_or (pt_cmpR (r := rNeU K) (op_neU hr.units) (pe_callB (r := rRepr K) (call_repr hg hr.units) (by rfl) T.n_repr (by decide +kernel) (pa_cons (pe_callD D_parting_moves hg (hr.mono (by decide)) (by rfl) (pa_cons (pv 3) (pa_cons (pv 4) (pa_cons (pv 5) (pa_cons (pv 7) pa_nil))))) pa_nil)) (pe_callB (r := rRepr K) (call_repr hg hr.units) (by rfl) T.n_repr (by decide +kernel) (pa_cons (pv 9) pa_nil)) (nomark _)) (pw_or1 (pt_cmpR (r := rNeU K) (op_neU hr.units) (pe_callB (r := rRepr K) (call_repr hg hr.units) (by rfl) T.n_repr (by decide +kernel) (pa_cons (pe_lst (pa_cons (pv 3) (pa_cons (pv 5) pa_nil))) pa_nil)) (pv 8) (nomark _))))) (pss_one (ps_ret pe_bl)) pss_nil)
      (pss_cons (ps_if (PW.pt (pw_or (pt_cmpR (r := rNeU K) (op_neU hr.units) (pe_cmpR op_isN (pv 9) pe_non (nomark _)) (pe_callD D_are_alike hg (hr.mono (by decide)) (by rfl) (pa_cons (pv 3) (pa_cons (pv 4) (pa_cons (pv 5) (pa_cons (pv 7) pa_nil))))) (nomark _)) (pw_or1 (pt_cmpR op_isN (pv 9) pe_non (nomark _))))) (pss_one (ps_ret (pe_and (pe_cmpR op_isN (pv 9) pe_non (nomark _)) (pe_one (pe_cmpR op_isBl (pe_callD D_are_alike hg (hr.mono (by decide)) (by rfl) (pa_cons (pv 3) (pa_cons (pv 4) (pa_cons (pv 5) (pa_cons (pv 7) pa_nil))))) pe_bl (nomark _)))))) pss_nil)
      (pss_cons (ps_par (i := 10) (j := 11) rfl sc__law_right.nd rfl rfl (by decide) rfl rfl (pa_cons (pe_callD D__law_begin hg (hr.mono (by decide)) (by rfl) (pa_cons (pv 3) (pa_cons (pv 4) pa_nil))) (pa_cons (pe_callD D__law_begin hg (hr.mono (by decide)) (by rfl) (pa_cons (pv 5) (pa_cons (pv 7) pa_nil))) pa_nil)) (by rfl))
      (pss_cons (ps_if (PW.pt (pw_or (pt_cmpR (r := rIn K true) op_notIn_seq (pe_callB (r := rLenQ K) call_len_seq (by rfl) T.n_len (by decide +kernel) (pa_cons (pv 9) pa_nil)) (pe_tup (pa_cons pe_int (pa_cons pe_int pa_nil))) (by rfl)) (pw_or1 (pt_cmpR (r := rNeU K) (op_neU hr.units) (pe_callD D__law_parts hg (hr.mono (by decide)) (by rfl) (pa_cons (pv 3) (pa_cons (pv 5) (pa_cons (pv 10) (pa_cons (pv 11) (pa_cons (pv 9) pa_nil)))))) (pe_callB (r := rLenQ K) call_len_seq (by rfl) T.n_len (by decide +kernel) (pa_cons (pv 9) pa_nil)) (nomark _))))) (pss_one (ps_ret pe_bl)) pss_nil)
      (pss_cons (ps_if (pt_cmpR (r := rNeU K) (op_neU hr.units) (pe_callB (r := rRepr K) (call_repr hg hr.units) (by rfl) T.n_repr (by decide +kernel) (pa_cons (pe_callD D_parting_moves hg (hr.mono (by decide)) (by rfl) (pa_cons (pv 5) (pa_cons (pv 7) (pa_cons (pv 3) (pa_cons (pv 4) pa_nil))))) pa_nil)) (pe_callB (r := rRepr K) (call_repr hg hr.units) (by rfl) T.n_repr (by decide +kernel) (pa_cons (pv 9) pa_nil)) (nomark _)) (pss_one (ps_ret pe_bl)) pss_nil)
      (pss_cons (ps_set (i := 12) sc__law_right.nd rfl (.inl rfl) (pe_callB (r := rRepr K) (call_repr hg hr.units) (by rfl) T.n_repr (by decide +kernel) (pa_cons (pv 9) pa_nil)))
      (pss_cons (ps_set (i := 2) sc__law_right.nd rfl (.inl rfl) (pe_and (pv 2) (pe_one (pe_cmpR op_lt (pe_callB (r := rSum K) (cr_sum rfl) (by rfl) T.n_sum (by decide +kernel) (pa_cons (pe_lc (own := [("step", 13)]) rfl sc__law_right.nd (pi_list (pv 9)) (blkOk_by (N := ["jar", "most", "is_small", "pair", "stand", "other", "kind", "place", "kept", "told", "first", "last", "again", "step"]) (sc := defScope s__law_right) (by decide +kernel)) (fun _ _ _ _ _ => (pg_name (i := 13) sc__law_right.nd rfl (Or.inl rfl) (Or.inr rfl))) (fun _ _ _ _ _ => pts_nil) (fun _ _ _ _ _ => (pe_callB call_abs (by rfl) T.n_abs (by decide +kernel) (pa_cons (pv 13) pa_nil)))) pa_nil)) pe_int (nomark _)))))
      (pss_cons (ps_if (PW.pt (pw_and (pt_truth (pv 2) (by intro _; rfl)) (pw_and1 (pt_not (pt_val (pe_callD D__law_is_least hg (hr.mono (by decide)) (by rfl) (pa_cons (pv 3) (pa_cons (pv 5) (pa_cons (pv 10) (pa_cons (pv 11) (pa_cons (pv 9) pa_nil))))))))))) (pss_one (ps_ret pe_bl)) pss_nil)
      (pss_cons (ps_expr (pe_bm PySem.F.plainAttrs_list PySem.F.slot_list_append PySem.F.type_list_append mt_append (pv 9) (pa_cons pe_non pa_nil)))
      (pss_one (ps_ret (pe_cmpR (r := rEqU K) (op_eqU hr.units) (pe_callB (r := rRepr K) (call_repr hg hr.units) (by rfl) T.n_repr (by decide +kernel) (pa_cons (pe_callD D_parting_moves hg (hr.mono (by decide)) (by rfl) (pa_cons (pv 3) (pa_cons (pv 4) (pa_cons (pv 5) (pa_cons (pv 7) pa_nil))))) pa_nil)) (pv 12) (nomark _))))))))))))))))))), ?_⟩)
  · obtain ⟨a, n, rfl, _⟩ := h; rfl
  · intro c p pl ds k hp h
    obtain ⟨most, n, rfl, ⟨m0, m1⟩, hP, hn, h⟩ := h
    have m0' : 1 ≤ most := m0
    have m1' : most ≤ 24 := m1
    have fin : ∀ pl', Pk (n + 700) pl' → k (.bool true) pl' := fun pl' q => h _ _ rfl q
    have T37 : (10 : Int) ^ (37 : Int).toNat = 10 ^ 37 := by decide +kernel
    walk_at "nz"
    refine ws_seq (ws_set (we_pool most rfl hp ?_))
    refine wa_cons (we_var rfl (wa_nil ⟨rfl, ⟨m0, m1⟩, n, hP, by omega, fun d1 pl1 q1 hP1 => ?_⟩))
    obtain ⟨v, rfl, ov⟩ := q1
    have ov' : v.Ok := ov
    have hP1' : Pk (n + 300) pl1 := hP1
    walk_at "nz"
    refine ws_seq (ws_par3 (wa_cons (we_pool (v, 20) rfl hp ?_)))
    refine wa_cons (we_var rfl (wa_cons (we_int (wa_nil ⟨rfl, ⟨ov', by show (1 : Int) ≤ 20; decide, by show (20 : Int) ≤ 10 ^ 37; decide +kernel⟩, n + 300, hP1', by omega, fun d2 pl2 q2 hP2 => ?_⟩))))
    obtain ⟨s, rfl, hs, sb1, sb2⟩ := q2
    have hs' : held v s = true := hs
    have sb1' : s.1.natAbs ≤ 10 ^ 38 := sb1
    have sb2' : s.2.natAbs ≤ 10 ^ 38 := sb2
    have hP2' : Pk (n + 303) pl2 := hP2
    refine wa_cons (we_var rfl (wa_cons (we_draw 4 (n + 303) rfl hp (wa_cons (we_int (wa_nil ⟨rfl, by decide, hP2', by omega, fun kind pl3 k0 k1 hP3 => ?_⟩))))))
    refine wa_nil ⟨_, _, _, rfl, ?_⟩
    have hP3' : Pk (n + 304) pl3 := hP3
    walk_at "nz"
    refine ws_seqJ (fun ds' p' => ∃ w : Dv, ds' = [some (.v (.ref p)), some (.d (.int most)), some (.d (.bool true)), some (.d v.d), some (.d s.d), some (.d w.d), some (.d (.int kind)), none, none, none, none, none, none, none] ∧ w.Ok ∧ Pk (n + 604) p') ?_ ?_
    · refine ws_if (wt_B (we_op (we_var rfl (we_int (os_eqI ?_)))))
      walk_at "nz"
      by_cases z : kind = 0
      · refine iteV (decide_eq_true z) ?_
        refine ws_set (we_pool most rfl hp ?_)
        refine wa_cons (we_var rfl (wa_nil ⟨rfl, ⟨m0, m1⟩, n + 304, hP3', by omega, fun d4 pl4 q4 hP4 => ?_⟩))
        obtain ⟨w, rfl, ow⟩ := q4
        exact ⟨w, rfl, ow, hP4⟩
      refine iteN (decide_eq_false z) ?_
      refine ws_if (wt_B (we_op (we_var rfl (we_int (os_eqI ?_)))))
      walk_at "nz"
      by_cases z1 : kind = 1
      · refine iteV (decide_eq_true z1) ?_
        refine ws_set (we_tup (wa_cons (we_op (we_var rfl (we_int (os_t0 ?_))))))
        refine wa_cons (we_pool most rfl hp ?_)
        refine wa_cons (we_var rfl (wa_nil ⟨rfl, ⟨m0, m1⟩, n + 304, hP3', by omega, fun d4 pl4 q4 hP4 => ?_⟩))
        obtain ⟨x, rfl, ox⟩ := q4
        exact wa_nil ⟨by show 2 ≤ sizeLine; decide, (v.1, x), rfl, ⟨ov'.1, ox⟩, hP4.up (by show n + 304 + 100 ≤ n + 604; omega)⟩
      refine iteN (decide_eq_false z1) ?_
      refine ws_if (wt_B (we_op (we_var rfl (we_int (os_eqI ?_)))))
      walk_at "nz"
      by_cases z2 : kind = 2
      · refine iteV (decide_eq_true z2) ?_
        refine ws_set (we_tup (wa_cons (we_pool most rfl hp ?_)))
        refine wa_cons (we_var rfl (wa_nil ⟨rfl, ⟨m0, m1⟩, n + 304, hP3', by omega, fun d4 pl4 q4 hP4 => ?_⟩))
        obtain ⟨x, rfl, ox⟩ := q4
        refine wa_cons (we_op (we_var rfl (we_int (os_t1 ?_))))
        exact wa_nil ⟨by show 2 ≤ sizeLine; decide, (x, v.2), rfl, ⟨ox, ov'.2⟩, hP4.up (by show n + 304 + 100 ≤ n + 604; omega)⟩
      refine iteN (decide_eq_false z2) ?_
      refine ws_next ?_
      exact ⟨v, rfl, ov', hP3'.up (by omega)⟩
    rintro ds' p4 ⟨w', rfl, ow, hP4⟩
    have ow' : w'.Ok := ow
    have okE : okD 20 (.list [v.d, w'.d]) := fun x hx => by
      simp only [List.mem_cons, List.not_mem_nil, or_false] at hx
      rcases hx with rfl | rfl
      · exact okD_up (ov'.okD 0) (by decide)
      · exact okD_up (ow'.okD 0) (by decide)
    have cnE : cnt (.list [v.d, w'.d]) ≤ 60000 := by
      have a1 := ov'.cnt
      have a2 := ow'.cnt
      show cnt v.d + (cnt w'.d + 0) + 1 ≤ _
      omega
    obtain ⟨kept, hkept⟩ : ∃ r, PyData.shown (.list [v.d, w'.d]) = r := ⟨_, rfl⟩
    walk_at "nz"
    refine ws_seq (ws_par (wa_cons ?_))
    refine we_poolE rfl hp ?_
    refine wa_cons (we_var rfl (wa_cons (we_op (we_lst (wa_cons (we_int (wa_cons (we_op (we_int (we_int ?_))))))))))
    refine os_pow (poww (by decide) (by decide) (by decide +kernel) (by decide +kernel)) ?_
    rw [T37]
    refine wa_nil ⟨by show 2 ≤ sizeLine; decide, ?_⟩
    refine we_draw 2 (n + 604) rfl hp (wa_cons (we_int (wa_nil ⟨rfl, by decide, hP4, by omega, fun v5 pl5 v50 v51 hP5 => ?_⟩)))
    refine os_pick (fun x => ∃ m : Int, x = .int m ∧ 1 ≤ m ∧ m ≤ 10 ^ 37) v50 v51 ?_ ?_
    · intro x hx
      simp only [List.mem_cons, List.not_mem_nil, or_false] at hx
      rcases hx with rfl | rfl <;> exact ⟨_, rfl, by decide +kernel, by decide +kernel⟩
    rintro _ ⟨far, rfl, f0, f1⟩
    refine wa_nil ⟨(w', far), rfl, ⟨ow', f0, f1⟩, n + 605, hP5, by omega, fun d6 pl6 q6 hP6 => ?_⟩
    obtain ⟨t, rfl, ht, tb1, tb2⟩ := q6
    have ht' : held w' t = true := ht
    have hP6' : Pk (n + 608) pl6 := hP6
    refine wa_cons (we_cb (wa_cons (we_lst (wa_cons (we_var rfl (wa_cons (we_var rfl (wa_nil ⟨by show 2 ≤ sizeLine; decide, wa_nil (cb_repr okE cnE ?_)⟩))))))))
    rw [hkept]
    refine wa_nil ⟨_, _, rfl, ?_⟩
    have pre : (v.Ok ∧ held v s = true) ∧ w'.Ok ∧ held w' t = true := ⟨⟨ov', hs'⟩, ow', ht'⟩
    have pre2 : (w'.Ok ∧ held w' t = true) ∧ v.Ok ∧ held v s = true := ⟨⟨ow', ht'⟩, ov', hs'⟩
    have fin6 : k (.bool true) pl6 := fin _ (hP6'.up (by omega))
    walk_at "nz"
    refine ws_of_wsk fun G0 D' ft => ?_
    refine wsk_setNoP ((v, s), w', t) (wa_pick ?_)
    refine wa_cons (we_var rfl (wa_cons (we_var rfl (wa_cons (we_var rfl (wa_cons (we_var rfl (wa_nil ⟨rfl, pre, fun o q => ?_⟩))))))))
    have q' : PartD v s w' t (noD o) := q
    rcases part_cases q' with ⟨eo, ak⟩ | ⟨ms, eo, pd⟩
    · have e0 : o = none := by cases o with
        | none => rfl
        | some xs => cases eo
      subst e0
      refine .inl ⟨rfl, ?_⟩
      refine wsk_of_ws ?_ ft
      have b2t : ∀ b2 : Bool, (b2 = true ↔ AlkS v s w' t) → b2 = true := fun b2 h2 => h2.mpr ak
      walk_at "nz"
      refine ws_seq (ws_if (wt_or (wt_B (we_op (we_cb (wa_cons (we_noD ((v, s), w', t) ?_)))))))
      refine wa_cons (we_var rfl (wa_cons (we_var rfl (wa_cons (we_var rfl (wa_cons (we_var rfl (wa_nil ⟨rfl, pre, fun o2 q2 => ?_⟩))))))))
      have e2 : noD o2 = .none := part_uniq ov' ow' q2 q'
      rw [e2]
      refine wa_nil (cb_repr trivial (by decide) ?_)
      refine we_cb (wa_cons (we_var rfl (wa_nil (cb_repr trivial (by decide) ?_))))
      refine os_neT ?_
      walk_at "nz"
      refine iteN (by simp) ?_
      refine wt_B (we_op (we_cb (wa_cons (we_lst (wa_cons (we_var rfl (wa_cons (we_var rfl (wa_nil ⟨by show 2 ≤ sizeLine; decide, wa_nil (cb_repr okE cnE ?_)⟩)))))))))
      rw [hkept]
      refine we_var rfl (os_neT ?_)
      walk_at "nz"
      refine iteN (by simp) ?_
      refine ws_next ?_
      walk_at "nz"
      refine ws_seq (ws_if (wt_or (wt_B (we_op (we_op (we_var rfl (we_non (os_isN ?_))))))))
      refine we_rel ((v, s), w', t) ?_
      refine wa_cons (we_var rfl (wa_cons (we_var rfl (wa_cons (we_var rfl (wa_cons (we_var rfl (wa_nil ⟨rfl, pre, fun d7 q7 => ?_⟩))))))))
      obtain ⟨b7, rfl, h7⟩ := q7
      have e7 := b2t b7 h7
      subst e7
      refine os_neUD rfl rfl ?_
      walk_at "nz"
      refine iteN rfl ?_
      refine wt_B (we_op (we_var rfl (we_non (os_isN ?_))))
      walk_at "nz"
      refine iteV rfl ?_
      refine ws_ret (we_andV (we_op (we_var rfl (we_non (os_isN ?_)))))
      walk_at "nz"
      refine iteV rfl ?_
      refine we_op (we_rel ((v, s), w', t) ?_)
      refine wa_cons (we_var rfl (wa_cons (we_var rfl (wa_cons (we_var rfl (wa_cons (we_var rfl (wa_nil ⟨rfl, pre, fun d8 q8 => ?_⟩))))))))
      obtain ⟨b8, rfl, h8⟩ := q8
      have e8 := b2t b8 h8
      subst e8
      exact we_bl (os_isB fin6)
    · have e0 : o = some (ms.map PyData.int) := by cases o with
        | none => cases eo
        | some xs => rw [PyData.list.inj eo]
      subst e0
      refine .inr ⟨ms, rfl, fun a FF => ?_⟩
      have nak : ¬ AlkS v s w' t := fun z => by have := (part_not_alike ov' ow' pd).mpr z; cases this
      have b2f : ∀ b2 : Bool, (b2 = true ↔ AlkS v s w' t) → b2 = false := fun b2 h2 => by
        cases b2 with
        | false => rfl
        | true => exact absurd (h2.mp rfl) nak
      have rP := one_r a ms
      have okM := okD_ms pd
      obtain ⟨_, _, _, mb, l1, l2⟩ := part_looks pd
      have cnM : cnt (.list (ms.map PyData.int)) ≤ 60000 := by rw [cnt_ints]; omega
      obtain ⟨again, hagain⟩ : ∃ r, PyData.shown (.list (ms.map PyData.int)) = r := ⟨_, rfl⟩
      have pk6 : (∃ n, Pk n pl6) ∨ c.pool = none := .inl ⟨_, hP6'⟩
      walk_at "nz"
      refine wsk_seq (ws_if ?_)
      refine wt_pin (i := 9) (.list (ms.map PyData.int)) FF rfl rP (no_of rfl) ?_
      walk_at "nz"
      refine wt_or (wt_B (we_op (we_cb (wa_cons (we_noD ((v, s), w', t) ?_)))))
      refine wa_cons (we_var rfl (wa_cons (we_var rfl (wa_cons (we_var rfl (wa_cons (we_var rfl (wa_nil ⟨rfl, pre, fun o2 q2 => ?_⟩))))))))
      have e2 : noD o2 = .list (ms.map PyData.int) := part_uniq ov' ow' q2 pd
      rw [e2]
      refine wa_nil (cb_repr okM cnM ?_)
      refine we_cb (wa_cons (we_var rfl (wa_nil (cb_repr okM cnM ?_))))
      refine os_neT ?_
      walk_at "nz"
      refine iteN (by simp) ?_
      refine wt_B (we_op (we_cb (wa_cons (we_lst (wa_cons (we_var rfl (wa_cons (we_var rfl (wa_nil ⟨by show 2 ≤ sizeLine; decide, wa_nil (cb_repr okE cnE ?_)⟩)))))))))
      rw [hkept]
      refine we_var rfl (os_neT ?_)
      walk_at "nz"
      refine ⟨pk6, ?_⟩
      refine iteN (by simp) ?_
      refine ws_next ?_
      walk_at "nz"
      refine wsk_seq (ws_if ?_)
      refine wt_pin (i := 9) (.list (ms.map PyData.int)) FF rfl rP (no_of rfl) ?_
      walk_at "nz"
      refine wt_or (wt_B (we_op (we_op (we_var rfl (we_non (os_isN ?_))))))
      refine we_rel ((v, s), w', t) ?_
      refine wa_cons (we_var rfl (wa_cons (we_var rfl (wa_cons (we_var rfl (wa_cons (we_var rfl (wa_nil ⟨rfl, pre, fun d7 q7 => ?_⟩))))))))
      obtain ⟨b7, rfl, h7⟩ := q7
      have e7 := b2f b7 h7
      subst e7
      refine os_neUD rfl rfl ?_
      walk_at "nz"
      refine iteN rfl ?_
      refine wt_B (we_op (we_var rfl (we_non (os_isN ?_))))
      walk_at "nz"
      refine ⟨pk6, ?_⟩
      refine iteN rfl ?_
      refine ws_next ?_
      walk_at "nz"
      refine wsk_seq (ws_par (wa_cons (we_det (v, s) ?_)))
      refine wa_cons (we_var rfl (wa_cons (we_var rfl (wa_nil ⟨rfl, ov', ?_⟩))))
      refine wa_cons (we_det (w', t) ?_)
      refine wa_cons (we_var rfl (wa_cons (we_var rfl (wa_nil ⟨rfl, ow', ?_⟩))))
      refine wa_nil ⟨_, _, rfl, ?_⟩
      walk_at "nz"
      refine wsk_seq (ws_if ?_)
      refine wt_pin (i := 9) (.list (ms.map PyData.int)) FF rfl rP (no_of rfl) ?_
      walk_at "nz"
      refine wt_or (wt_B (we_op (we_cb (wa_cons (we_var rfl (wa_nil (cb_lenL ?_)))))))
      refine we_tup (wa_cons (we_int (wa_cons (we_int (wa_nil ⟨by show 2 ≤ sizeLine; decide, ?_⟩)))))
      rw [List.length_map]
      refine os_notinT (ns := [1, 2]) ?_
      walk_at "nz"
      refine iteN (by rw [decide_eq_true (told_len pd)]; rfl) ?_
      refine wt_B (we_op (we_det (((v, s), w', t), ms) ?_))
      refine wa_cons (we_var rfl (wa_cons (we_var rfl (wa_cons (we_var rfl (wa_cons (we_var rfl (wa_cons (we_var rfl (wa_nil ⟨rfl, ⟨ov', ow', fun m hm => (mb m hm).1⟩, ?_⟩))))))))))
      rw [show prtN (((v, s), w', t), ms).1.1.1 (((v, s), w', t), ms).1.2.1 (((v, s), w', t), ms).1.1.2 (((v, s), w', t), ms).1.2.2 (((v, s), w', t), ms).2 = ms.length from part_prt pd]
      refine we_cb (wa_cons (we_var rfl (wa_nil (cb_lenL ?_))))
      rw [List.length_map]
      refine os_neI ?_
      walk_at "nz"
      refine ⟨pk6, ?_⟩
      refine iteN (by rw [decide_eq_true rfl]; rfl) ?_
      refine ws_next ?_
      walk_at "nz"
      refine wsk_seq (ws_if ?_)
      refine wt_pin (i := 9) (.list (ms.map PyData.int)) FF rfl rP (no_of rfl) ?_
      walk_at "nz"
      refine wt_B (we_op (we_cb (wa_cons (we_noD ((w', t), v, s) ?_))))
      refine wa_cons (we_var rfl (wa_cons (we_var rfl (wa_cons (we_var rfl (wa_cons (we_var rfl (wa_nil ⟨rfl, pre2, fun o2 q2 => ?_⟩))))))))
      have e3 : noD o2 = .list (ms.map PyData.int) := part_uniq ov' ow' (part_symm q2) pd
      rw [e3]
      refine wa_nil (cb_repr okM cnM ?_)
      refine we_cb (wa_cons (we_var rfl (wa_nil (cb_repr okM cnM ?_))))
      refine os_neT ?_
      walk_at "nz"
      refine ⟨pk6, ?_⟩
      refine iteN (by simp) ?_
      refine ws_next ?_
      walk_at "nz"
      refine wsk_seq (ws_set (we_pinX (i := 9) (.list (ms.map PyData.int)) FF rfl rP (no_of rfl) ?_))
      walk_at "nz"
      refine we_cb (wa_cons (we_var rfl (wa_nil (cb_repr okM cnM ?_))))
      rw [hagain]
      refine ⟨pk6, _, rfl, fun G G' u r => by cases r; exact .str _, ?_⟩
      walk_at "nz"
      obtain ⟨small, hsmall⟩ : ∃ x : Bool, decide ((ms.map sz1).sum < 31) = x := ⟨_, rfl⟩
      refine wsk_seq (ws_set (we_pinX (i := 9) (.list (ms.map PyData.int)) FF rfl rP (no_of rfl) ?_))
      walk_at "nz"
      refine we_andV (we_var rfl ?_)
      walk_at "nz"
      refine iteV rfl ?_
      refine we_op (we_cb (wa_cons ?_))
      refine we_lcM ms PyData.int (fun m => .int (if m < 0 then -m else m)) (Nat.lt_of_le_of_lt l2 (by decide)) (fun xs q => by cases q) ?_ ?_
      case refine_2 =>
        intro p1 m hm pin
        walk_at "nz"
        refine we_cb (wa_cons (we_var rfl (wa_nil (cb_abs ?_))))
        exact ⟨congrArg PyData.int (by show ((m.natAbs : Nat) : Int) = if m < 0 then -m else m; omega), rfl⟩
      refine we_var rfl ⟨rfl, ?_⟩
      rw [show (ms.map fun m => PyData.int (if m < 0 then -m else m)) = (ms.map sz1).map PyData.int by rw [List.map_map]; rfl]
      refine wa_nil (cb_sum (we_int (os_lt ?_)))
      rw [hsmall]
      refine ⟨pk6, _, rfl, fun G G' u r => by cases r; exact .bl _, ?_⟩
      walk_at "nz"
      refine wsk_seq (ws_if ?_)
      refine wt_pin (i := 9) (.list (ms.map PyData.int)) FF rfl rP (no_of rfl) ?_
      walk_at "nz"
      refine wt_and (wt_tru (we_var rfl ⟨rfl, ?_⟩))
      cases small with
      | false =>
        walk_at "nz"
        refine ⟨pk6, ?_⟩
        refine iteN rfl ?_
        refine ws_next ?_
        walk_at "nz"
        refine wsk_appPN (i := 9) rfl FF one_at (show (ms.map V.int).length < sizeLine by rw [List.length_map]; exact Nat.lt_of_le_of_lt l2 (by decide)) (we_non ⟨rfl, fun F2 => ?_⟩)
        walk_at "nz"
        refine wsk_of_ws ?_ (Fits.pinP F2 ft)
        refine ws_ret (we_op (we_cb (wa_cons (we_noD ((v, s), w', t) ?_))))
        refine wa_cons (we_var rfl (wa_cons (we_var rfl (wa_cons (we_var rfl (wa_cons (we_var rfl (wa_nil ⟨rfl, pre, fun o2 q2 => ?_⟩))))))))
        have e4 : noD o2 = .list (ms.map PyData.int) := part_uniq ov' ow' q2 pd
        rw [e4]
        refine wa_nil (cb_repr okM cnM ?_)
        rw [hagain]
        refine we_var rfl (os_eqT ?_)
        rw [decide_eq_true rfl]
        exact fin6
      | true =>
        walk_at "nz"
        refine iteV rfl ?_
        refine wt_not (wt_T (we_rel (((v, s), w', t), ms) ?_))
        refine wa_cons (we_var rfl (wa_cons (we_var rfl (wa_cons (we_var rfl (wa_cons (we_var rfl (wa_cons (we_var rfl (wa_nil ⟨rfl, ⟨ov', ow', by have := of_decide_eq_true hsmall; show (ms.map sz1).sum ≤ 30; omega, pd⟩, fun d9 q9 => ?_⟩))))))))))
        have q9' : d9 = .bool true := q9
        subst q9'
        walk_at "nz"
        refine ⟨pk6, ?_⟩
        refine iteN rfl ?_
        refine ws_next ?_
        walk_at "nz"
        refine wsk_appPN (i := 9) rfl FF one_at (show (ms.map V.int).length < sizeLine by rw [List.length_map]; exact Nat.lt_of_le_of_lt l2 (by decide)) (we_non ⟨rfl, fun F2 => ?_⟩)
        walk_at "nz"
        refine wsk_of_ws ?_ (Fits.pinP F2 ft)
        refine ws_ret (we_op (we_cb (wa_cons (we_noD ((v, s), w', t) ?_))))
        refine wa_cons (we_var rfl (wa_cons (we_var rfl (wa_cons (we_var rfl (wa_cons (we_var rfl (wa_nil ⟨rfl, pre, fun o2 q2 => ?_⟩))))))))
        have e4 : noD o2 = .list (ms.map PyData.int) := part_uniq ov' ow' q2 pd
        rw [e4]
        refine wa_nil (cb_repr okM cnM ?_)
        rw [hagain]
        refine we_var rfl (os_eqT ?_)
        rw [decide_eq_true rfl]
        exact fin6

theorem ok_law (T : Tx K mg) (D__law_jar : D__law_jar_ P w K mg base) (D__law_right : D__law_right_ P w K mg base) (D_parting_moves : D_parting_moves_ P w K mg base) {f : Addr} {fd : FuncData} (F : Here K mg "law" s_law ["script"] f fd) : FG P w K mg base (9 + 1) f fd ["script"] (spLaw K) := by
  refine fgLaw F.1 sc_law rfl fun cdv B fr s H E hg hr => ⟨_, ((pss_cons (ps_for PassesOwn.never rfl (pi_range1 (by rfl) T.n_range (pa_cons (pe_callB (call_max2 rfl) (by rfl) T.n_max (by decide +kernel) (pa_cons pe_int (pa_cons (pe_callB (call_min2 rfl) (by rfl) T.n_min (by decide +kernel) (pa_cons pe_int (pa_cons (pe_callB (r := rLenQ K) call_len_seq (by rfl) T.n_len (by decide +kernel) (pa_cons (pv 0) pa_nil)) pa_nil))) pa_nil))) pa_nil)) (pg_name (i := 1) sc_law.nd rfl (.inl rfl)) (pss_cons (ps_set (i := 2) sc_law.nd rfl (.inl rfl) (pe_callD D__law_jar hg (hr.mono (by decide)) (by rfl) (pa_cons (pv 0) (pa_cons (pv 1) pa_nil))))
      (pss_one (ps_for PassesOwn.never rfl (pi_range1 (by rfl) T.n_range (pa_cons pe_int pa_nil)) (pg_name (i := 3) sc_law.nd rfl (.inl rfl)) (pss_one (ps_if (pt_not (pt_val (pe_callD D__law_right hg (hr.mono (by decide)) (by rfl) (pa_cons (pv 2) (pa_cons (pe_ix (r := rIx K) ix_seq (pe_lst (pa_cons pe_int (pa_cons pe_int (pa_cons pe_int (pa_cons pe_int pa_nil))))) (pv 3) (fun _ _ => rfl)) (pa_cons pe_bl pa_nil)))))) (pss_one (ps_ret pe_bl)) pss_nil))))))
      (pss_cons (ps_par3 (i := 4) (j := 5) (l := 6) rfl sc_law.nd rfl rfl rfl (by decide) (by decide) (by decide) rfl rfl rfl (pa_cons (pe_tup (pa_cons (pe_tup (pa_cons pe_int (pa_cons (pe_lst (pa_cons pe_int (pa_cons pe_int pa_nil))) pa_nil))) (pa_cons (pe_tup (pa_cons pe_int (pa_cons (pe_lst (pa_cons pe_int pa_nil)) pa_nil))) pa_nil))) (pa_cons (pe_tup (pa_cons (pe_tup (pa_cons pe_int (pa_cons (pe_lst (pa_cons pe_int (pa_cons pe_int pa_nil))) pa_nil))) (pa_cons (pe_tup (pa_cons pe_int (pa_cons (pe_lst (pa_cons pe_int pa_nil)) pa_nil))) pa_nil))) (pa_cons (pe_tup (pa_cons (pe_tup (pa_cons pe_int (pa_cons (pe_lst (pa_cons pe_int pa_nil)) pa_nil))) (pa_cons (pe_tup (pa_cons pe_int (pa_cons (pe_lst (pa_cons pe_int pa_nil)) pa_nil))) pa_nil))) pa_nil))) (by rfl))
      (pss_cons (ps_set (i := 7) sc_law.nd rfl (.inl rfl) (pe_lst (pa_cons (pe_callD D_parting_moves hg (hr.mono (by decide)) (by rfl) (pa_cons (pv 4) (pa_cons (pe_tup (pa_cons pe_int (pa_cons pe_int pa_nil))) (pa_cons (pv 5) (pa_cons (pe_tup (pa_cons pe_int (pa_cons pe_int pa_nil))) pa_nil))))) (pa_cons (pe_callD D_parting_moves hg (hr.mono (by decide)) (by rfl) (pa_cons (pv 4) (pa_cons (pe_tup (pa_cons pe_int (pa_cons pe_int pa_nil))) (pa_cons (pv 6) (pa_cons (pe_tup (pa_cons pe_int (pa_cons pe_int pa_nil))) pa_nil))))) pa_nil))))
      (pss_cons (ps_expr (pe_bm PySem.F.plainAttrs_list PySem.F.slot_list_append PySem.F.type_list_append mt_append (pv 7) (pa_cons (pe_callD D_parting_moves hg (hr.mono (by decide)) (by rfl) (pa_cons (pv 4) (pa_cons (pe_tup (pa_cons pe_int (pa_cons pe_int pa_nil))) (pa_cons (pv 4) (pa_cons (pe_tup (pa_cons pe_int (pa_cons pe_int pa_nil))) pa_nil))))) pa_nil)))
      (pss_one (ps_ret (pe_and (pe_cmpR (r := rEqU K) (op_eqU hr.units) (pv 7) (pe_lst (pa_cons (pe_lst (pa_cons (pe_un un_neg pe_int) (pa_cons pe_int pa_nil))) (pa_cons (pe_lst (pa_cons pe_int (pa_cons (pe_un un_neg pe_int) pa_nil))) (pa_cons (pe_lst (pa_cons pe_int pa_nil)) pa_nil)))) (nomark _)) (pe_one (pe_cmpR op_isN (pe_callD D_parting_moves hg (hr.mono (by decide)) (by rfl) (pa_cons (pv 4) (pa_cons (pe_tup (pa_cons pe_int (pa_cons pe_int pa_nil))) (pa_cons (pv 4) (pa_cons (pe_tup (pa_cons pe_int (pa_cons (pe_un un_neg pe_int) pa_nil))) pa_nil))))) pe_non (nomark _))))))))))), ?_⟩
  intro c a ns hc hS hl
  walk_at "nz"
  refine ws_seq ?_
  refine ws_forR1 (fun i ds' pl' => ∃ b1 b2 b3, ds' = [some (.v (.ref a)), b1, b2, b3, none, none, none, none] ∧ pl' = []) (max 1 (min 4 ns.length)) ?_ ?_ ?_
  · walk_at "go"
    exact ⟨_, rfl, by omega, by omega, by omega, _, _, _, rfl, rfl⟩
  · rintro i ds' pl' hi ⟨b1, b2, b3, rfl, rfl⟩
    walk_at "nz"
    refine ws_mkpool hc hS rfl _ i (we_var rfl ⟨rfl, rfl⟩) (fun k k' ⟨i0, i1, h⟩ g => ⟨i0, i1, fun pl q => g _ (h pl q)⟩) ⟨by omega, by omega, fun pl hP p => ?_⟩
    walk_at "nz"
    obtain ⟨i9, hi9⟩ : ∃ i9 : Int, (i : Int) = i9 := ⟨_, rfl⟩
    rw [hi9]
    refine ws_forR1 (fun j ds' pl' => ∃ b3, ds' = [some (.v (.ref a)), some (.d (.int i9)), some (.v (.ref p)), b3, none, none, none, none] ∧ Pk (1000 * j) pl') 4 ?_ ?_ ?_
    · walk_at "go"
      exact ⟨_, rfl, by decide, by decide, by decide, _, rfl, hP⟩
    · rintro j ds' pl' hj ⟨b3, rfl, hPj⟩
      obtain ⟨j9, hj9⟩ : ∃ j9 : Int, (j : Int) = j9 := ⟨_, rfl⟩
      rw [hj9]
      walk_at "nz"
      refine ws_if (wt_not (wt_T (we_poolE rfl rfl ?_)))
      refine wa_cons (we_op (we_lst ?_))
      walk_at "go"
      refine os_pick (fun x => ∃ m : Int, x = .int m ∧ 1 ≤ m ∧ m ≤ 24) (show (0 : Int) ≤ j9 by omega) (show j9 < (4 : Int) by omega) ?_ ?_
      · intro x hx
        simp only [List.mem_cons, List.not_mem_nil, or_false] at hx
        rcases hx with rfl | rfl | rfl | rfl <;> exact ⟨_, rfl, by decide, by decide⟩
      rintro _ ⟨most, rfl, m0, m1⟩
      refine wa_cons (we_bl (wa_nil ⟨most, rfl, ⟨m0, m1⟩, 1000 * j, hPj, by omega, fun d1 pl1 q1 hP1 => ?_⟩))
      have q1' : d1 = .bool true := q1
      subst q1'
      walk_at "nz"
      refine iteN rfl ?_
      refine ws_next ?_
      exact ⟨_, rfl, hP1.up (by show 1000 * j + 700 ≤ 1000 * (j + 1); omega)⟩
    · rintro ds' pl' ⟨b3, rfl, hPe⟩
      exact ⟨_, _, _, rfl, rfl⟩
  · rintro ds' pl' ⟨b1, b2, b3, rfl, rfl⟩
    have okAB : Dv.Ok (tenA, tenB) := ⟨okA, okB⟩
    have okAF : Dv.Ok (tenA, five) := ⟨okA, okF⟩
    have okBB : Dv.Ok (tenB, tenB) := ⟨okB, okB⟩
    walk_at "nz"
    refine ws_seq (ws_par3 (wa_cons (we_tup ?_)))
    refine wa_cons (we_tup (wa_cons (we_int (wa_cons (we_lst (wa_cons (we_int (wa_cons (we_int (wa_nil ⟨by show 2 ≤ sizeLine; decide, wa_nil ⟨by show 2 ≤ sizeLine; decide, ?_⟩⟩))))))))))
    refine wa_cons (we_tup (wa_cons (we_int (wa_cons (we_lst (wa_cons (we_int (wa_nil ⟨by show 1 ≤ sizeLine; decide, wa_nil ⟨by show 2 ≤ sizeLine; decide, wa_nil ⟨by show 2 ≤ sizeLine; decide, ?_⟩⟩⟩))))))))
    refine wa_cons (we_tup ?_)
    refine wa_cons (we_tup (wa_cons (we_int (wa_cons (we_lst (wa_cons (we_int (wa_cons (we_int (wa_nil ⟨by show 2 ≤ sizeLine; decide, wa_nil ⟨by show 2 ≤ sizeLine; decide, ?_⟩⟩))))))))))
    refine wa_cons (we_tup (wa_cons (we_int (wa_cons (we_lst (wa_cons (we_int (wa_nil ⟨by show 1 ≤ sizeLine; decide, wa_nil ⟨by show 2 ≤ sizeLine; decide, wa_nil ⟨by show 2 ≤ sizeLine; decide, ?_⟩⟩⟩))))))))
    refine wa_cons (we_tup ?_)
    refine wa_cons (we_tup (wa_cons (we_int (wa_cons (we_lst (wa_cons (we_int (wa_nil ⟨by show 1 ≤ sizeLine; decide, wa_nil ⟨by show 2 ≤ sizeLine; decide, ?_⟩⟩))))))))
    refine wa_cons (we_tup (wa_cons (we_int (wa_cons (we_lst (wa_cons (we_int (wa_nil ⟨by show 1 ≤ sizeLine; decide, wa_nil ⟨by show 2 ≤ sizeLine; decide, wa_nil ⟨by show 2 ≤ sizeLine; decide, ?_⟩⟩⟩))))))))
    refine wa_nil ⟨_, _, _, rfl, ?_⟩
    walk_at "nz"
    refine ws_seq (ws_setO (wa_cons (we_noD ((((tenA, tenB) : Dv), ((0, 0) : Sv)), ((tenA, five) : Dv), ((0, 0) : Sv)) ?_)))
    refine wa_cons (we_var rfl (wa_cons (we_tup (wa_cons (we_int (wa_cons (we_int (wa_nil ⟨by show 2 ≤ sizeLine; decide, ?_⟩))))))))
    refine wa_cons (we_var rfl (wa_cons (we_tup (wa_cons (we_int (wa_cons (we_int (wa_nil ⟨by show 2 ≤ sizeLine; decide, ?_⟩))))))))
    refine wa_nil ⟨rfl, ⟨⟨okAB, held_1⟩, okAF, held_2⟩, fun o1 q1 => ?_⟩
    rw [part_uniq okAB okAF q1 tell_1]
    refine wa_cons (we_noD ((((tenA, tenB) : Dv), ((0, 0) : Sv)), ((tenB, tenB) : Dv), ((0, 0) : Sv)) ?_)
    refine wa_cons (we_var rfl (wa_cons (we_tup (wa_cons (we_int (wa_cons (we_int (wa_nil ⟨by show 2 ≤ sizeLine; decide, ?_⟩))))))))
    refine wa_cons (we_var rfl (wa_cons (we_tup (wa_cons (we_int (wa_cons (we_int (wa_nil ⟨by show 2 ≤ sizeLine; decide, ?_⟩))))))))
    refine wa_nil ⟨rfl, ⟨⟨okAB, held_1⟩, okBB, held_3⟩, fun o2 q2 => ?_⟩
    rw [part_uniq okAB okBB q2 tell_2]
    refine wa_nil ⟨by show 2 ≤ sizeLine; decide, ?_⟩
    walk_at "nz"
    refine ws_seq (ws_app rfl (we_noD ((((tenA, tenB) : Dv), ((3, 0) : Sv)), ((tenA, tenB) : Dv), ((0, 0) : Sv)) ?_))
    refine wa_cons (we_var rfl (wa_cons (we_tup (wa_cons (we_int (wa_cons (we_int (wa_nil ⟨by show 2 ≤ sizeLine; decide, ?_⟩))))))))
    refine wa_cons (we_var rfl (wa_cons (we_tup (wa_cons (we_int (wa_cons (we_int (wa_nil ⟨by show 2 ≤ sizeLine; decide, ?_⟩))))))))
    refine wa_nil ⟨rfl, ⟨⟨okAB, held_4⟩, okAB, held_1⟩, fun o3 q3 => ?_⟩
    rw [part_uniq okAB okAB q3 tell_3]
    refine ⟨by show 2 < sizeLine; decide, ?_⟩
    refine ws_frz (i := 7) rfl ?_
    walk_at "nz"
    refine ws_ret (we_andV (we_op (we_var rfl (we_lst ?_))))
    refine wa_cons (we_lst (wa_cons (we_neg (we_int (wa_cons (we_int (wa_nil ⟨by show 2 ≤ sizeLine; decide, ?_⟩)))))))
    refine wa_cons (we_lst (wa_cons (we_int (wa_cons (we_neg (we_int (wa_nil ⟨by show 2 ≤ sizeLine; decide, ?_⟩)))))))
    refine wa_cons (we_lst (wa_cons (we_int (wa_nil ⟨by show 1 ≤ sizeLine; decide, ?_⟩))))
    refine wa_nil ⟨by show 3 ≤ sizeLine; decide, ?_⟩
    refine os_eqUD (by rfl) (by rfl) ?_
    walk_at "nz"
    refine iteV rfl ?_
    refine we_op (we_noD ((((tenA, tenB) : Dv), ((0, 0) : Sv)), ((tenA, tenB) : Dv), ((10, -10) : Sv)) ?_)
    refine wa_cons (we_var rfl (wa_cons (we_tup (wa_cons (we_int (wa_cons (we_int (wa_nil ⟨by show 2 ≤ sizeLine; decide, ?_⟩))))))))
    refine wa_cons (we_var rfl (wa_cons (we_tup (wa_cons (we_int (wa_cons (we_neg (we_int (wa_nil ⟨by show 2 ≤ sizeLine; decide, ?_⟩)))))))))
    refine wa_nil ⟨rfl, ⟨⟨okAB, held_1⟩, okAB, held_5⟩, fun o4 q4 => ?_⟩
    rw [part_uniq okAB okAB q4 tell_4]
    refine we_non (os_isN ?_)
    exact rfl

end
/-! what the top has written -/
theorem here_mk {K : PySem.W.Frag} {h : Heap} {mg : Str → Option Value} {name : Str} {st : Stmt} {ps : List Str} {f : Addr} {oc : Value} {od an : Option Addr} {osl : Array (Option Value)} {kV doc pm cdv ct : Value} (X : K.In h) (G : h.Ns mainGlobals mg)
    (a : PySem.W.nsIn K mainGlobals name = some (some (.ref f))) (l : K.lookup f = some ⟨oc, od, .func (PySem.W.fnOf name name (defArgs st) (defBody st) (defScope st) .none kV doc pm an cdv ct), osl⟩) (c : PySem.W.codeIn K cdv name = true) (k : PySem.W.keepIn K (.ref f) = true)
    (b : ∀ (F : Fun K name name st f (PySem.W.fnOf name name (defArgs st) (defBody st) (defScope st) .none kV doc pm an cdv ct)), Binds K (PySem.W.fnOf name name (defArgs st) (defBody st) (defScope st) .none kV doc pm an cdv ct) ps []) : Here K mg name st ps f (PySem.W.fnOf name name (defArgs st) (defBody st) (defScope st) .none kV doc pm an cdv ct) :=
  ⟨fun_mk l c k, PySem.W.mg_of X G a, b (fun_mk l c k)⟩
theorem kw_mk {K : PySem.W.Frag} {h : Heap} {mg : Str → Option Value} {name : Str} {st : Stmt} {ps ks : List Str} {is : List Nat} {f : Addr} {oc : Value} {od an : Option Addr} {osl : Array (Option Value)} {kV doc pm cdv ct : Value} (X : K.In h) (G : h.Ns mainGlobals mg)
    (a : PySem.W.nsIn K mainGlobals name = some (some (.ref f))) (l : K.lookup f = some ⟨oc, od, .func (PySem.W.fnOf name name (defArgs st) (defBody st) (defScope st) .none kV doc pm an cdv ct), osl⟩)
    (b : ∀ (kV doc pm cdv ct : Value) (an : Option Addr) (ws : List Value), (pick is ws).length = ps.length → bindArgs (PySem.W.fnOf name name (defArgs st) (defBody st) (defScope st) .none kV doc pm an cdv ct) ⟨[], ks.zip ws⟩ = pure (ps.zip (pick is ws))) : KwOk K mg name ps ks is :=
  ⟨f, _, PySem.W.mg_of X G a, ⟨oc, od, osl, l⟩, fun s ws hl => .of_eq (b kV doc pm cdv ct an ws hl)⟩
/-- one def stands at the top -/
def At (K : PySem.W.Frag) (name : Str) (st : Stmt) : Prop := ∃ (f : Addr) (oc : Value) (od an : Option Addr) (osl : Array (Option Value)) (kV doc pm cdv ct : Value), PySem.W.nsIn K mainGlobals name = some (some (.ref f)) ∧ K.lookup f = some ⟨oc, od, .func (PySem.W.fnOf name name (defArgs st) (defBody st) (defScope st) .none kV doc pm an cdv ct), osl⟩ ∧ PySem.W.codeIn K cdv name = true ∧ PySem.W.keepIn K (.ref f) = true
theorem kwb_parting_moves_start_second_state_device (kV doc pm cdv ct : Value) (an : Option Addr) : ∀ (ws : List Value), (pick [3, 2, 1, 0] ws).length = 4 → bindArgs (PySem.W.fnOf "parting_moves" "parting_moves" (defArgs s_parting_moves) (defBody s_parting_moves) (defScope s_parting_moves) .none kV doc pm an cdv ct) ⟨[], (["start", "second", "state", "device"] : List Str).zip ws⟩ = pure ((["device", "state", "second", "start"] : List Str).zip (pick [3, 2, 1, 0] ws))
  | [], hl => absurd (show (0 : Nat) = 4 from hl) (by decide)
  | [_], hl => absurd (show (1 : Nat) = 4 from hl) (by decide)
  | [_, _], hl => absurd (show (2 : Nat) = 4 from hl) (by decide)
  | [_, _, _], hl => absurd (show (3 : Nat) = 4 from hl) (by decide)
  | w0 :: w1 :: w2 :: w3 :: r, _ => rfl
theorem all_mk {l : PySem.W.OpenLaw} {w : World} {K : PySem.W.Frag} {h : Heap} {mg : Str → Option Value} {fa : Addr} (X : K.In h) (G : h.Ns mainGlobals mg) (hfa : mg "law" = some (.ref fa))
    {f_is_whole f_is_pair f_is_whole_pair f_catches f_floor_catch f_copied_comb f_is_pitch f_are_teeth f_check_comb f_check_device f_is_comb f_plain_comb f_teeth_under f_repeated_teeth f_is_held f_fits_device f_check_state f_comb_slacks f_device_slacks f_check_begun f_check_both f_shifted_comb f_shifted_device f_are_alike f_parting_size f_single_partings f_parting_pairs f_double_partings f_parting_rank f_parting_moves f__law_jar f__law_pick f__law_comb f__law_pair f__law_under f__law_rise f__law_begin f__law_stand f__law_parts f__law_lists f__law_is_least f__law_right f_law : Addr} {od_is_whole an_is_whole od_is_pair an_is_pair od_is_whole_pair an_is_whole_pair od_catches an_catches od_floor_catch an_floor_catch od_copied_comb an_copied_comb od_is_pitch an_is_pitch od_are_teeth an_are_teeth od_check_comb an_check_comb od_check_device an_check_device od_is_comb an_is_comb od_plain_comb an_plain_comb od_teeth_under an_teeth_under od_repeated_teeth an_repeated_teeth od_is_held an_is_held od_fits_device an_fits_device od_check_state an_check_state od_comb_slacks an_comb_slacks od_device_slacks an_device_slacks od_check_begun an_check_begun od_check_both an_check_both od_shifted_comb an_shifted_comb od_shifted_device an_shifted_device od_are_alike an_are_alike od_parting_size an_parting_size od_single_partings an_single_partings od_parting_pairs an_parting_pairs od_double_partings an_double_partings od_parting_rank an_parting_rank od_parting_moves an_parting_moves od__law_jar an__law_jar od__law_pick an__law_pick od__law_comb an__law_comb od__law_pair an__law_pair od__law_under an__law_under od__law_rise an__law_rise od__law_begin an__law_begin od__law_stand an__law_stand od__law_parts an__law_parts od__law_lists an__law_lists od__law_is_least an__law_is_least od__law_right an__law_right od_law an_law : Option Addr} {sl_is_whole sl_is_pair sl_is_whole_pair sl_catches sl_floor_catch sl_copied_comb sl_is_pitch sl_are_teeth sl_check_comb sl_check_device sl_is_comb sl_plain_comb sl_teeth_under sl_repeated_teeth sl_is_held sl_fits_device sl_check_state sl_comb_slacks sl_device_slacks sl_check_begun sl_check_both sl_shifted_comb sl_shifted_device sl_are_alike sl_parting_size sl_single_partings sl_parting_pairs sl_double_partings sl_parting_rank sl_parting_moves sl__law_jar sl__law_pick sl__law_comb sl__law_pair sl__law_under sl__law_rise sl__law_begin sl__law_stand sl__law_parts sl__law_lists sl__law_is_least sl__law_right sl_law : Array (Option Value)} {oc_is_whole kV_is_whole dc_is_whole pm_is_whole cd_is_whole ct_is_whole oc_is_pair kV_is_pair dc_is_pair pm_is_pair cd_is_pair ct_is_pair oc_is_whole_pair kV_is_whole_pair dc_is_whole_pair pm_is_whole_pair cd_is_whole_pair ct_is_whole_pair oc_catches kV_catches dc_catches pm_catches cd_catches ct_catches oc_floor_catch kV_floor_catch dc_floor_catch pm_floor_catch cd_floor_catch ct_floor_catch oc_copied_comb kV_copied_comb dc_copied_comb pm_copied_comb cd_copied_comb ct_copied_comb oc_is_pitch kV_is_pitch dc_is_pitch pm_is_pitch cd_is_pitch ct_is_pitch oc_are_teeth kV_are_teeth dc_are_teeth pm_are_teeth cd_are_teeth ct_are_teeth oc_check_comb kV_check_comb dc_check_comb pm_check_comb cd_check_comb ct_check_comb oc_check_device kV_check_device dc_check_device pm_check_device cd_check_device ct_check_device oc_is_comb kV_is_comb dc_is_comb pm_is_comb cd_is_comb ct_is_comb oc_plain_comb kV_plain_comb dc_plain_comb pm_plain_comb cd_plain_comb ct_plain_comb oc_teeth_under kV_teeth_under dc_teeth_under pm_teeth_under cd_teeth_under ct_teeth_under oc_repeated_teeth kV_repeated_teeth dc_repeated_teeth pm_repeated_teeth cd_repeated_teeth ct_repeated_teeth oc_is_held kV_is_held dc_is_held pm_is_held cd_is_held ct_is_held oc_fits_device kV_fits_device dc_fits_device pm_fits_device cd_fits_device ct_fits_device oc_check_state kV_check_state dc_check_state pm_check_state cd_check_state ct_check_state oc_comb_slacks kV_comb_slacks dc_comb_slacks pm_comb_slacks cd_comb_slacks ct_comb_slacks oc_device_slacks kV_device_slacks dc_device_slacks pm_device_slacks cd_device_slacks ct_device_slacks oc_check_begun kV_check_begun dc_check_begun pm_check_begun cd_check_begun ct_check_begun oc_check_both kV_check_both dc_check_both pm_check_both cd_check_both ct_check_both oc_shifted_comb kV_shifted_comb dc_shifted_comb pm_shifted_comb cd_shifted_comb ct_shifted_comb oc_shifted_device kV_shifted_device dc_shifted_device pm_shifted_device cd_shifted_device ct_shifted_device oc_are_alike kV_are_alike dc_are_alike pm_are_alike cd_are_alike ct_are_alike oc_parting_size kV_parting_size dc_parting_size pm_parting_size cd_parting_size ct_parting_size oc_single_partings kV_single_partings dc_single_partings pm_single_partings cd_single_partings ct_single_partings oc_parting_pairs kV_parting_pairs dc_parting_pairs pm_parting_pairs cd_parting_pairs ct_parting_pairs oc_double_partings kV_double_partings dc_double_partings pm_double_partings cd_double_partings ct_double_partings oc_parting_rank kV_parting_rank dc_parting_rank pm_parting_rank cd_parting_rank ct_parting_rank oc_parting_moves kV_parting_moves dc_parting_moves pm_parting_moves cd_parting_moves ct_parting_moves oc__law_jar kV__law_jar dc__law_jar pm__law_jar cd__law_jar ct__law_jar oc__law_pick kV__law_pick dc__law_pick pm__law_pick cd__law_pick ct__law_pick oc__law_comb kV__law_comb dc__law_comb pm__law_comb cd__law_comb ct__law_comb oc__law_pair kV__law_pair dc__law_pair pm__law_pair cd__law_pair ct__law_pair oc__law_under kV__law_under dc__law_under pm__law_under cd__law_under ct__law_under oc__law_rise kV__law_rise dc__law_rise pm__law_rise cd__law_rise ct__law_rise oc__law_begin kV__law_begin dc__law_begin pm__law_begin cd__law_begin ct__law_begin oc__law_stand kV__law_stand dc__law_stand pm__law_stand cd__law_stand ct__law_stand oc__law_parts kV__law_parts dc__law_parts pm__law_parts cd__law_parts ct__law_parts oc__law_lists kV__law_lists dc__law_lists pm__law_lists cd__law_lists ct__law_lists oc__law_is_least kV__law_is_least dc__law_is_least pm__law_is_least cd__law_is_least ct__law_is_least oc__law_right kV__law_right dc__law_right pm__law_right cd__law_right ct__law_right oc_law kV_law dc_law pm_law cd_law ct_law : Value}
    (a_is_whole : PySem.W.nsIn K mainGlobals "is_whole" = some (some (.ref f_is_whole))) (l_is_whole : K.lookup f_is_whole = some ⟨oc_is_whole, od_is_whole, .func (PySem.W.fnOf "is_whole" "is_whole" (defArgs s_is_whole) (defBody s_is_whole) (defScope s_is_whole) .none kV_is_whole dc_is_whole pm_is_whole an_is_whole cd_is_whole ct_is_whole), sl_is_whole⟩) (c_is_whole : PySem.W.codeIn K cd_is_whole "is_whole" = true) (k_is_whole : PySem.W.keepIn K (.ref f_is_whole) = true)
    (a_is_pair : PySem.W.nsIn K mainGlobals "is_pair" = some (some (.ref f_is_pair))) (l_is_pair : K.lookup f_is_pair = some ⟨oc_is_pair, od_is_pair, .func (PySem.W.fnOf "is_pair" "is_pair" (defArgs s_is_pair) (defBody s_is_pair) (defScope s_is_pair) .none kV_is_pair dc_is_pair pm_is_pair an_is_pair cd_is_pair ct_is_pair), sl_is_pair⟩) (c_is_pair : PySem.W.codeIn K cd_is_pair "is_pair" = true) (k_is_pair : PySem.W.keepIn K (.ref f_is_pair) = true)
    (a_is_whole_pair : PySem.W.nsIn K mainGlobals "is_whole_pair" = some (some (.ref f_is_whole_pair))) (l_is_whole_pair : K.lookup f_is_whole_pair = some ⟨oc_is_whole_pair, od_is_whole_pair, .func (PySem.W.fnOf "is_whole_pair" "is_whole_pair" (defArgs s_is_whole_pair) (defBody s_is_whole_pair) (defScope s_is_whole_pair) .none kV_is_whole_pair dc_is_whole_pair pm_is_whole_pair an_is_whole_pair cd_is_whole_pair ct_is_whole_pair), sl_is_whole_pair⟩) (c_is_whole_pair : PySem.W.codeIn K cd_is_whole_pair "is_whole_pair" = true) (k_is_whole_pair : PySem.W.keepIn K (.ref f_is_whole_pair) = true)
    (a_catches : PySem.W.nsIn K mainGlobals "catches" = some (some (.ref f_catches))) (l_catches : K.lookup f_catches = some ⟨oc_catches, od_catches, .func (PySem.W.fnOf "catches" "catches" (defArgs s_catches) (defBody s_catches) (defScope s_catches) .none kV_catches dc_catches pm_catches an_catches cd_catches ct_catches), sl_catches⟩) (c_catches : PySem.W.codeIn K cd_catches "catches" = true) (k_catches : PySem.W.keepIn K (.ref f_catches) = true)
    (a_floor_catch : PySem.W.nsIn K mainGlobals "floor_catch" = some (some (.ref f_floor_catch))) (l_floor_catch : K.lookup f_floor_catch = some ⟨oc_floor_catch, od_floor_catch, .func (PySem.W.fnOf "floor_catch" "floor_catch" (defArgs s_floor_catch) (defBody s_floor_catch) (defScope s_floor_catch) .none kV_floor_catch dc_floor_catch pm_floor_catch an_floor_catch cd_floor_catch ct_floor_catch), sl_floor_catch⟩) (c_floor_catch : PySem.W.codeIn K cd_floor_catch "floor_catch" = true) (k_floor_catch : PySem.W.keepIn K (.ref f_floor_catch) = true)
    (a_copied_comb : PySem.W.nsIn K mainGlobals "copied_comb" = some (some (.ref f_copied_comb))) (l_copied_comb : K.lookup f_copied_comb = some ⟨oc_copied_comb, od_copied_comb, .func (PySem.W.fnOf "copied_comb" "copied_comb" (defArgs s_copied_comb) (defBody s_copied_comb) (defScope s_copied_comb) .none kV_copied_comb dc_copied_comb pm_copied_comb an_copied_comb cd_copied_comb ct_copied_comb), sl_copied_comb⟩) (c_copied_comb : PySem.W.codeIn K cd_copied_comb "copied_comb" = true) (k_copied_comb : PySem.W.keepIn K (.ref f_copied_comb) = true)
    (a_is_pitch : PySem.W.nsIn K mainGlobals "is_pitch" = some (some (.ref f_is_pitch))) (l_is_pitch : K.lookup f_is_pitch = some ⟨oc_is_pitch, od_is_pitch, .func (PySem.W.fnOf "is_pitch" "is_pitch" (defArgs s_is_pitch) (defBody s_is_pitch) (defScope s_is_pitch) .none kV_is_pitch dc_is_pitch pm_is_pitch an_is_pitch cd_is_pitch ct_is_pitch), sl_is_pitch⟩) (c_is_pitch : PySem.W.codeIn K cd_is_pitch "is_pitch" = true) (k_is_pitch : PySem.W.keepIn K (.ref f_is_pitch) = true)
    (a_are_teeth : PySem.W.nsIn K mainGlobals "are_teeth" = some (some (.ref f_are_teeth))) (l_are_teeth : K.lookup f_are_teeth = some ⟨oc_are_teeth, od_are_teeth, .func (PySem.W.fnOf "are_teeth" "are_teeth" (defArgs s_are_teeth) (defBody s_are_teeth) (defScope s_are_teeth) .none kV_are_teeth dc_are_teeth pm_are_teeth an_are_teeth cd_are_teeth ct_are_teeth), sl_are_teeth⟩) (c_are_teeth : PySem.W.codeIn K cd_are_teeth "are_teeth" = true) (k_are_teeth : PySem.W.keepIn K (.ref f_are_teeth) = true)
    (a_check_comb : PySem.W.nsIn K mainGlobals "check_comb" = some (some (.ref f_check_comb))) (l_check_comb : K.lookup f_check_comb = some ⟨oc_check_comb, od_check_comb, .func (PySem.W.fnOf "check_comb" "check_comb" (defArgs s_check_comb) (defBody s_check_comb) (defScope s_check_comb) .none kV_check_comb dc_check_comb pm_check_comb an_check_comb cd_check_comb ct_check_comb), sl_check_comb⟩) (c_check_comb : PySem.W.codeIn K cd_check_comb "check_comb" = true) (k_check_comb : PySem.W.keepIn K (.ref f_check_comb) = true)
    (a_check_device : PySem.W.nsIn K mainGlobals "check_device" = some (some (.ref f_check_device))) (l_check_device : K.lookup f_check_device = some ⟨oc_check_device, od_check_device, .func (PySem.W.fnOf "check_device" "check_device" (defArgs s_check_device) (defBody s_check_device) (defScope s_check_device) .none kV_check_device dc_check_device pm_check_device an_check_device cd_check_device ct_check_device), sl_check_device⟩) (c_check_device : PySem.W.codeIn K cd_check_device "check_device" = true) (k_check_device : PySem.W.keepIn K (.ref f_check_device) = true)
    (a_is_comb : PySem.W.nsIn K mainGlobals "is_comb" = some (some (.ref f_is_comb))) (l_is_comb : K.lookup f_is_comb = some ⟨oc_is_comb, od_is_comb, .func (PySem.W.fnOf "is_comb" "is_comb" (defArgs s_is_comb) (defBody s_is_comb) (defScope s_is_comb) .none kV_is_comb dc_is_comb pm_is_comb an_is_comb cd_is_comb ct_is_comb), sl_is_comb⟩) (c_is_comb : PySem.W.codeIn K cd_is_comb "is_comb" = true) (k_is_comb : PySem.W.keepIn K (.ref f_is_comb) = true)
    (a_plain_comb : PySem.W.nsIn K mainGlobals "plain_comb" = some (some (.ref f_plain_comb))) (l_plain_comb : K.lookup f_plain_comb = some ⟨oc_plain_comb, od_plain_comb, .func (PySem.W.fnOf "plain_comb" "plain_comb" (defArgs s_plain_comb) (defBody s_plain_comb) (defScope s_plain_comb) .none kV_plain_comb dc_plain_comb pm_plain_comb an_plain_comb cd_plain_comb ct_plain_comb), sl_plain_comb⟩) (c_plain_comb : PySem.W.codeIn K cd_plain_comb "plain_comb" = true) (k_plain_comb : PySem.W.keepIn K (.ref f_plain_comb) = true)
    (a_teeth_under : PySem.W.nsIn K mainGlobals "teeth_under" = some (some (.ref f_teeth_under))) (l_teeth_under : K.lookup f_teeth_under = some ⟨oc_teeth_under, od_teeth_under, .func (PySem.W.fnOf "teeth_under" "teeth_under" (defArgs s_teeth_under) (defBody s_teeth_under) (defScope s_teeth_under) .none kV_teeth_under dc_teeth_under pm_teeth_under an_teeth_under cd_teeth_under ct_teeth_under), sl_teeth_under⟩) (c_teeth_under : PySem.W.codeIn K cd_teeth_under "teeth_under" = true) (k_teeth_under : PySem.W.keepIn K (.ref f_teeth_under) = true)
    (a_repeated_teeth : PySem.W.nsIn K mainGlobals "repeated_teeth" = some (some (.ref f_repeated_teeth))) (l_repeated_teeth : K.lookup f_repeated_teeth = some ⟨oc_repeated_teeth, od_repeated_teeth, .func (PySem.W.fnOf "repeated_teeth" "repeated_teeth" (defArgs s_repeated_teeth) (defBody s_repeated_teeth) (defScope s_repeated_teeth) .none kV_repeated_teeth dc_repeated_teeth pm_repeated_teeth an_repeated_teeth cd_repeated_teeth ct_repeated_teeth), sl_repeated_teeth⟩) (c_repeated_teeth : PySem.W.codeIn K cd_repeated_teeth "repeated_teeth" = true) (k_repeated_teeth : PySem.W.keepIn K (.ref f_repeated_teeth) = true)
    (a_is_held : PySem.W.nsIn K mainGlobals "is_held" = some (some (.ref f_is_held))) (l_is_held : K.lookup f_is_held = some ⟨oc_is_held, od_is_held, .func (PySem.W.fnOf "is_held" "is_held" (defArgs s_is_held) (defBody s_is_held) (defScope s_is_held) .none kV_is_held dc_is_held pm_is_held an_is_held cd_is_held ct_is_held), sl_is_held⟩) (c_is_held : PySem.W.codeIn K cd_is_held "is_held" = true) (k_is_held : PySem.W.keepIn K (.ref f_is_held) = true)
    (a_fits_device : PySem.W.nsIn K mainGlobals "fits_device" = some (some (.ref f_fits_device))) (l_fits_device : K.lookup f_fits_device = some ⟨oc_fits_device, od_fits_device, .func (PySem.W.fnOf "fits_device" "fits_device" (defArgs s_fits_device) (defBody s_fits_device) (defScope s_fits_device) .none kV_fits_device dc_fits_device pm_fits_device an_fits_device cd_fits_device ct_fits_device), sl_fits_device⟩) (c_fits_device : PySem.W.codeIn K cd_fits_device "fits_device" = true) (k_fits_device : PySem.W.keepIn K (.ref f_fits_device) = true)
    (a_check_state : PySem.W.nsIn K mainGlobals "check_state" = some (some (.ref f_check_state))) (l_check_state : K.lookup f_check_state = some ⟨oc_check_state, od_check_state, .func (PySem.W.fnOf "check_state" "check_state" (defArgs s_check_state) (defBody s_check_state) (defScope s_check_state) .none kV_check_state dc_check_state pm_check_state an_check_state cd_check_state ct_check_state), sl_check_state⟩) (c_check_state : PySem.W.codeIn K cd_check_state "check_state" = true) (k_check_state : PySem.W.keepIn K (.ref f_check_state) = true)
    (a_comb_slacks : PySem.W.nsIn K mainGlobals "comb_slacks" = some (some (.ref f_comb_slacks))) (l_comb_slacks : K.lookup f_comb_slacks = some ⟨oc_comb_slacks, od_comb_slacks, .func (PySem.W.fnOf "comb_slacks" "comb_slacks" (defArgs s_comb_slacks) (defBody s_comb_slacks) (defScope s_comb_slacks) .none kV_comb_slacks dc_comb_slacks pm_comb_slacks an_comb_slacks cd_comb_slacks ct_comb_slacks), sl_comb_slacks⟩) (c_comb_slacks : PySem.W.codeIn K cd_comb_slacks "comb_slacks" = true) (k_comb_slacks : PySem.W.keepIn K (.ref f_comb_slacks) = true)
    (a_device_slacks : PySem.W.nsIn K mainGlobals "device_slacks" = some (some (.ref f_device_slacks))) (l_device_slacks : K.lookup f_device_slacks = some ⟨oc_device_slacks, od_device_slacks, .func (PySem.W.fnOf "device_slacks" "device_slacks" (defArgs s_device_slacks) (defBody s_device_slacks) (defScope s_device_slacks) .none kV_device_slacks dc_device_slacks pm_device_slacks an_device_slacks cd_device_slacks ct_device_slacks), sl_device_slacks⟩) (c_device_slacks : PySem.W.codeIn K cd_device_slacks "device_slacks" = true) (k_device_slacks : PySem.W.keepIn K (.ref f_device_slacks) = true)
    (a_check_begun : PySem.W.nsIn K mainGlobals "check_begun" = some (some (.ref f_check_begun))) (l_check_begun : K.lookup f_check_begun = some ⟨oc_check_begun, od_check_begun, .func (PySem.W.fnOf "check_begun" "check_begun" (defArgs s_check_begun) (defBody s_check_begun) (defScope s_check_begun) .none kV_check_begun dc_check_begun pm_check_begun an_check_begun cd_check_begun ct_check_begun), sl_check_begun⟩) (c_check_begun : PySem.W.codeIn K cd_check_begun "check_begun" = true) (k_check_begun : PySem.W.keepIn K (.ref f_check_begun) = true)
    (a_check_both : PySem.W.nsIn K mainGlobals "check_both" = some (some (.ref f_check_both))) (l_check_both : K.lookup f_check_both = some ⟨oc_check_both, od_check_both, .func (PySem.W.fnOf "check_both" "check_both" (defArgs s_check_both) (defBody s_check_both) (defScope s_check_both) .none kV_check_both dc_check_both pm_check_both an_check_both cd_check_both ct_check_both), sl_check_both⟩) (c_check_both : PySem.W.codeIn K cd_check_both "check_both" = true) (k_check_both : PySem.W.keepIn K (.ref f_check_both) = true)
    (a_shifted_comb : PySem.W.nsIn K mainGlobals "shifted_comb" = some (some (.ref f_shifted_comb))) (l_shifted_comb : K.lookup f_shifted_comb = some ⟨oc_shifted_comb, od_shifted_comb, .func (PySem.W.fnOf "shifted_comb" "shifted_comb" (defArgs s_shifted_comb) (defBody s_shifted_comb) (defScope s_shifted_comb) .none kV_shifted_comb dc_shifted_comb pm_shifted_comb an_shifted_comb cd_shifted_comb ct_shifted_comb), sl_shifted_comb⟩) (c_shifted_comb : PySem.W.codeIn K cd_shifted_comb "shifted_comb" = true) (k_shifted_comb : PySem.W.keepIn K (.ref f_shifted_comb) = true)
    (a_shifted_device : PySem.W.nsIn K mainGlobals "shifted_device" = some (some (.ref f_shifted_device))) (l_shifted_device : K.lookup f_shifted_device = some ⟨oc_shifted_device, od_shifted_device, .func (PySem.W.fnOf "shifted_device" "shifted_device" (defArgs s_shifted_device) (defBody s_shifted_device) (defScope s_shifted_device) .none kV_shifted_device dc_shifted_device pm_shifted_device an_shifted_device cd_shifted_device ct_shifted_device), sl_shifted_device⟩) (c_shifted_device : PySem.W.codeIn K cd_shifted_device "shifted_device" = true) (k_shifted_device : PySem.W.keepIn K (.ref f_shifted_device) = true)
    (a_are_alike : PySem.W.nsIn K mainGlobals "are_alike" = some (some (.ref f_are_alike))) (l_are_alike : K.lookup f_are_alike = some ⟨oc_are_alike, od_are_alike, .func (PySem.W.fnOf "are_alike" "are_alike" (defArgs s_are_alike) (defBody s_are_alike) (defScope s_are_alike) .none kV_are_alike dc_are_alike pm_are_alike an_are_alike cd_are_alike ct_are_alike), sl_are_alike⟩) (c_are_alike : PySem.W.codeIn K cd_are_alike "are_alike" = true) (k_are_alike : PySem.W.keepIn K (.ref f_are_alike) = true)
    (a_parting_size : PySem.W.nsIn K mainGlobals "parting_size" = some (some (.ref f_parting_size))) (l_parting_size : K.lookup f_parting_size = some ⟨oc_parting_size, od_parting_size, .func (PySem.W.fnOf "parting_size" "parting_size" (defArgs s_parting_size) (defBody s_parting_size) (defScope s_parting_size) .none kV_parting_size dc_parting_size pm_parting_size an_parting_size cd_parting_size ct_parting_size), sl_parting_size⟩) (c_parting_size : PySem.W.codeIn K cd_parting_size "parting_size" = true) (k_parting_size : PySem.W.keepIn K (.ref f_parting_size) = true)
    (a_single_partings : PySem.W.nsIn K mainGlobals "single_partings" = some (some (.ref f_single_partings))) (l_single_partings : K.lookup f_single_partings = some ⟨oc_single_partings, od_single_partings, .func (PySem.W.fnOf "single_partings" "single_partings" (defArgs s_single_partings) (defBody s_single_partings) (defScope s_single_partings) .none kV_single_partings dc_single_partings pm_single_partings an_single_partings cd_single_partings ct_single_partings), sl_single_partings⟩) (c_single_partings : PySem.W.codeIn K cd_single_partings "single_partings" = true) (k_single_partings : PySem.W.keepIn K (.ref f_single_partings) = true)
    (a_parting_pairs : PySem.W.nsIn K mainGlobals "parting_pairs" = some (some (.ref f_parting_pairs))) (l_parting_pairs : K.lookup f_parting_pairs = some ⟨oc_parting_pairs, od_parting_pairs, .func (PySem.W.fnOf "parting_pairs" "parting_pairs" (defArgs s_parting_pairs) (defBody s_parting_pairs) (defScope s_parting_pairs) .none kV_parting_pairs dc_parting_pairs pm_parting_pairs an_parting_pairs cd_parting_pairs ct_parting_pairs), sl_parting_pairs⟩) (c_parting_pairs : PySem.W.codeIn K cd_parting_pairs "parting_pairs" = true) (k_parting_pairs : PySem.W.keepIn K (.ref f_parting_pairs) = true)
    (a_double_partings : PySem.W.nsIn K mainGlobals "double_partings" = some (some (.ref f_double_partings))) (l_double_partings : K.lookup f_double_partings = some ⟨oc_double_partings, od_double_partings, .func (PySem.W.fnOf "double_partings" "double_partings" (defArgs s_double_partings) (defBody s_double_partings) (defScope s_double_partings) .none kV_double_partings dc_double_partings pm_double_partings an_double_partings cd_double_partings ct_double_partings), sl_double_partings⟩) (c_double_partings : PySem.W.codeIn K cd_double_partings "double_partings" = true) (k_double_partings : PySem.W.keepIn K (.ref f_double_partings) = true)
    (a_parting_rank : PySem.W.nsIn K mainGlobals "parting_rank" = some (some (.ref f_parting_rank))) (l_parting_rank : K.lookup f_parting_rank = some ⟨oc_parting_rank, od_parting_rank, .func (PySem.W.fnOf "parting_rank" "parting_rank" (defArgs s_parting_rank) (defBody s_parting_rank) (defScope s_parting_rank) .none kV_parting_rank dc_parting_rank pm_parting_rank an_parting_rank cd_parting_rank ct_parting_rank), sl_parting_rank⟩) (c_parting_rank : PySem.W.codeIn K cd_parting_rank "parting_rank" = true) (k_parting_rank : PySem.W.keepIn K (.ref f_parting_rank) = true)
    (a_parting_moves : PySem.W.nsIn K mainGlobals "parting_moves" = some (some (.ref f_parting_moves))) (l_parting_moves : K.lookup f_parting_moves = some ⟨oc_parting_moves, od_parting_moves, .func (PySem.W.fnOf "parting_moves" "parting_moves" (defArgs s_parting_moves) (defBody s_parting_moves) (defScope s_parting_moves) .none kV_parting_moves dc_parting_moves pm_parting_moves an_parting_moves cd_parting_moves ct_parting_moves), sl_parting_moves⟩) (c_parting_moves : PySem.W.codeIn K cd_parting_moves "parting_moves" = true) (k_parting_moves : PySem.W.keepIn K (.ref f_parting_moves) = true)
    (a__law_jar : PySem.W.nsIn K mainGlobals "_law_jar" = some (some (.ref f__law_jar))) (l__law_jar : K.lookup f__law_jar = some ⟨oc__law_jar, od__law_jar, .func (PySem.W.fnOf "_law_jar" "_law_jar" (defArgs s__law_jar) (defBody s__law_jar) (defScope s__law_jar) .none kV__law_jar dc__law_jar pm__law_jar an__law_jar cd__law_jar ct__law_jar), sl__law_jar⟩) (c__law_jar : PySem.W.codeIn K cd__law_jar "_law_jar" = true) (k__law_jar : PySem.W.keepIn K (.ref f__law_jar) = true)
    (a__law_pick : PySem.W.nsIn K mainGlobals "_law_pick" = some (some (.ref f__law_pick))) (l__law_pick : K.lookup f__law_pick = some ⟨oc__law_pick, od__law_pick, .func (PySem.W.fnOf "_law_pick" "_law_pick" (defArgs s__law_pick) (defBody s__law_pick) (defScope s__law_pick) .none kV__law_pick dc__law_pick pm__law_pick an__law_pick cd__law_pick ct__law_pick), sl__law_pick⟩) (c__law_pick : PySem.W.codeIn K cd__law_pick "_law_pick" = true) (k__law_pick : PySem.W.keepIn K (.ref f__law_pick) = true)
    (a__law_comb : PySem.W.nsIn K mainGlobals "_law_comb" = some (some (.ref f__law_comb))) (l__law_comb : K.lookup f__law_comb = some ⟨oc__law_comb, od__law_comb, .func (PySem.W.fnOf "_law_comb" "_law_comb" (defArgs s__law_comb) (defBody s__law_comb) (defScope s__law_comb) .none kV__law_comb dc__law_comb pm__law_comb an__law_comb cd__law_comb ct__law_comb), sl__law_comb⟩) (c__law_comb : PySem.W.codeIn K cd__law_comb "_law_comb" = true) (k__law_comb : PySem.W.keepIn K (.ref f__law_comb) = true)
    (a__law_pair : PySem.W.nsIn K mainGlobals "_law_pair" = some (some (.ref f__law_pair))) (l__law_pair : K.lookup f__law_pair = some ⟨oc__law_pair, od__law_pair, .func (PySem.W.fnOf "_law_pair" "_law_pair" (defArgs s__law_pair) (defBody s__law_pair) (defScope s__law_pair) .none kV__law_pair dc__law_pair pm__law_pair an__law_pair cd__law_pair ct__law_pair), sl__law_pair⟩) (c__law_pair : PySem.W.codeIn K cd__law_pair "_law_pair" = true) (k__law_pair : PySem.W.keepIn K (.ref f__law_pair) = true)
    (a__law_under : PySem.W.nsIn K mainGlobals "_law_under" = some (some (.ref f__law_under))) (l__law_under : K.lookup f__law_under = some ⟨oc__law_under, od__law_under, .func (PySem.W.fnOf "_law_under" "_law_under" (defArgs s__law_under) (defBody s__law_under) (defScope s__law_under) .none kV__law_under dc__law_under pm__law_under an__law_under cd__law_under ct__law_under), sl__law_under⟩) (c__law_under : PySem.W.codeIn K cd__law_under "_law_under" = true) (k__law_under : PySem.W.keepIn K (.ref f__law_under) = true)
    (a__law_rise : PySem.W.nsIn K mainGlobals "_law_rise" = some (some (.ref f__law_rise))) (l__law_rise : K.lookup f__law_rise = some ⟨oc__law_rise, od__law_rise, .func (PySem.W.fnOf "_law_rise" "_law_rise" (defArgs s__law_rise) (defBody s__law_rise) (defScope s__law_rise) .none kV__law_rise dc__law_rise pm__law_rise an__law_rise cd__law_rise ct__law_rise), sl__law_rise⟩) (c__law_rise : PySem.W.codeIn K cd__law_rise "_law_rise" = true) (k__law_rise : PySem.W.keepIn K (.ref f__law_rise) = true)
    (a__law_begin : PySem.W.nsIn K mainGlobals "_law_begin" = some (some (.ref f__law_begin))) (l__law_begin : K.lookup f__law_begin = some ⟨oc__law_begin, od__law_begin, .func (PySem.W.fnOf "_law_begin" "_law_begin" (defArgs s__law_begin) (defBody s__law_begin) (defScope s__law_begin) .none kV__law_begin dc__law_begin pm__law_begin an__law_begin cd__law_begin ct__law_begin), sl__law_begin⟩) (c__law_begin : PySem.W.codeIn K cd__law_begin "_law_begin" = true) (k__law_begin : PySem.W.keepIn K (.ref f__law_begin) = true)
    (a__law_stand : PySem.W.nsIn K mainGlobals "_law_stand" = some (some (.ref f__law_stand))) (l__law_stand : K.lookup f__law_stand = some ⟨oc__law_stand, od__law_stand, .func (PySem.W.fnOf "_law_stand" "_law_stand" (defArgs s__law_stand) (defBody s__law_stand) (defScope s__law_stand) .none kV__law_stand dc__law_stand pm__law_stand an__law_stand cd__law_stand ct__law_stand), sl__law_stand⟩) (c__law_stand : PySem.W.codeIn K cd__law_stand "_law_stand" = true) (k__law_stand : PySem.W.keepIn K (.ref f__law_stand) = true)
    (a__law_parts : PySem.W.nsIn K mainGlobals "_law_parts" = some (some (.ref f__law_parts))) (l__law_parts : K.lookup f__law_parts = some ⟨oc__law_parts, od__law_parts, .func (PySem.W.fnOf "_law_parts" "_law_parts" (defArgs s__law_parts) (defBody s__law_parts) (defScope s__law_parts) .none kV__law_parts dc__law_parts pm__law_parts an__law_parts cd__law_parts ct__law_parts), sl__law_parts⟩) (c__law_parts : PySem.W.codeIn K cd__law_parts "_law_parts" = true) (k__law_parts : PySem.W.keepIn K (.ref f__law_parts) = true)
    (a__law_lists : PySem.W.nsIn K mainGlobals "_law_lists" = some (some (.ref f__law_lists))) (l__law_lists : K.lookup f__law_lists = some ⟨oc__law_lists, od__law_lists, .func (PySem.W.fnOf "_law_lists" "_law_lists" (defArgs s__law_lists) (defBody s__law_lists) (defScope s__law_lists) .none kV__law_lists dc__law_lists pm__law_lists an__law_lists cd__law_lists ct__law_lists), sl__law_lists⟩) (c__law_lists : PySem.W.codeIn K cd__law_lists "_law_lists" = true) (k__law_lists : PySem.W.keepIn K (.ref f__law_lists) = true)
    (a__law_is_least : PySem.W.nsIn K mainGlobals "_law_is_least" = some (some (.ref f__law_is_least))) (l__law_is_least : K.lookup f__law_is_least = some ⟨oc__law_is_least, od__law_is_least, .func (PySem.W.fnOf "_law_is_least" "_law_is_least" (defArgs s__law_is_least) (defBody s__law_is_least) (defScope s__law_is_least) .none kV__law_is_least dc__law_is_least pm__law_is_least an__law_is_least cd__law_is_least ct__law_is_least), sl__law_is_least⟩) (c__law_is_least : PySem.W.codeIn K cd__law_is_least "_law_is_least" = true) (k__law_is_least : PySem.W.keepIn K (.ref f__law_is_least) = true)
    (a__law_right : PySem.W.nsIn K mainGlobals "_law_right" = some (some (.ref f__law_right))) (l__law_right : K.lookup f__law_right = some ⟨oc__law_right, od__law_right, .func (PySem.W.fnOf "_law_right" "_law_right" (defArgs s__law_right) (defBody s__law_right) (defScope s__law_right) .none kV__law_right dc__law_right pm__law_right an__law_right cd__law_right ct__law_right), sl__law_right⟩) (c__law_right : PySem.W.codeIn K cd__law_right "_law_right" = true) (k__law_right : PySem.W.keepIn K (.ref f__law_right) = true)
    (a_law : PySem.W.nsIn K mainGlobals "law" = some (some (.ref f_law))) (l_law : K.lookup f_law = some ⟨oc_law, od_law, .func (PySem.W.fnOf "law" "law" (defArgs s_law) (defBody s_law) (defScope s_law) .none kV_law dc_law pm_law an_law cd_law ct_law), sl_law⟩) (c_law : PySem.W.codeIn K cd_law "law" = true) (k_law : PySem.W.keepIn K (.ref f_law) = true)
    (z_abs : PySem.W.nsIn K mainGlobals "abs" = some none) (z_all : PySem.W.nsIn K mainGlobals "all" = some none) (z_bool : PySem.W.nsIn K mainGlobals "bool" = some none) (z_enumerate : PySem.W.nsIn K mainGlobals "enumerate" = some none) (z_int : PySem.W.nsIn K mainGlobals "int" = some none) (z_isinstance : PySem.W.nsIn K mainGlobals "isinstance" = some none) (z_len : PySem.W.nsIn K mainGlobals "len" = some none) (z_list : PySem.W.nsIn K mainGlobals "list" = some none) (z_max : PySem.W.nsIn K mainGlobals "max" = some none) (z_min : PySem.W.nsIn K mainGlobals "min" = some none) (z_range : PySem.W.nsIn K mainGlobals "range" = some none) (z_repr : PySem.W.nsIn K mainGlobals "repr" = some none) (z_sorted : PySem.W.nsIn K mainGlobals "sorted" = some none) (z_sum : PySem.W.nsIn K mainGlobals "sum" = some none) (z_tuple : PySem.W.nsIn K mainGlobals "tuple" = some none) (z_zip : PySem.W.nsIn K mainGlobals "zip" = some none) {t_MOST_PITCH : PySem.Tok} (q_MOST_PITCH : PySem.W.nsIn K mainGlobals "MOST_PITCH" = some (some (.int 24 t_MOST_PITCH))) (m_lcm : PySem.W.nsIn K mainGlobals "lcm" = some (some (.builtin "math.lcm"))) :
    ∃ fd : FuncData, (∀ (s : Shared) (v : Value), BindsTo s fd ⟨[v], []⟩ [("script", v)]) ∧ ∀ base : Heap, K.In base → base.Ns mainGlobals mg → FG l.prog w K mg base (9 + 1) fa fd ["script"] (spLaw K) := by
  have e := hfa.symm.trans (PySem.W.mg_of X G a_law)
  cases e
  have X_parting_moves_kw_start_second_state_device : KwOk K mg "parting_moves" ["device", "state", "second", "start"] ["start", "second", "state", "device"] [3, 2, 1, 0] := kw_mk (st := s_parting_moves) X G a_parting_moves l_parting_moves fun kV doc pm cdv ct an ws hl => kwb_parting_moves_start_second_state_device kV doc pm cdv ct an ws hl
  have T : Tx K mg := ⟨PySem.W.mg_none_of X G z_abs, PySem.W.mg_none_of X G z_all, PySem.W.mg_none_of X G z_bool, PySem.W.mg_none_of X G z_enumerate, PySem.W.mg_none_of X G z_int, PySem.W.mg_none_of X G z_isinstance, PySem.W.mg_none_of X G z_len, PySem.W.mg_none_of X G z_list, PySem.W.mg_none_of X G z_max, PySem.W.mg_none_of X G z_min, PySem.W.mg_none_of X G z_range, PySem.W.mg_none_of X G z_repr, PySem.W.mg_none_of X G z_sorted, PySem.W.mg_none_of X G z_sum, PySem.W.mg_none_of X G z_tuple, PySem.W.mg_none_of X G z_zip, ⟨_, PySem.W.mg_of X G q_MOST_PITCH⟩, PySem.W.mg_of X G m_lcm, X_parting_moves_kw_start_second_state_device⟩
  have H_is_whole := here_mk (st := s_is_whole) (ps := ["value"]) X G a_is_whole l_is_whole c_is_whole k_is_whole fun F => F.binds fun _ _ _ _ _ _ us hl => match us, hl with | [_], _ => rfl
  have H_is_pair := here_mk (st := s_is_pair) (ps := ["value"]) X G a_is_pair l_is_pair c_is_pair k_is_pair fun F => F.binds fun _ _ _ _ _ _ us hl => match us, hl with | [_], _ => rfl
  have H_is_whole_pair := here_mk (st := s_is_whole_pair) (ps := ["value"]) X G a_is_whole_pair l_is_whole_pair c_is_whole_pair k_is_whole_pair fun F => F.binds fun _ _ _ _ _ _ us hl => match us, hl with | [_], _ => rfl
  have H_catches := here_mk (st := s_catches) (ps := ["comb", "number"]) X G a_catches l_catches c_catches k_catches fun F => F.binds fun _ _ _ _ _ _ us hl => match us, hl with | [_, _], _ => rfl
  have H_floor_catch := here_mk (st := s_floor_catch) (ps := ["comb", "number"]) X G a_floor_catch l_floor_catch c_floor_catch k_floor_catch fun F => F.binds fun _ _ _ _ _ _ us hl => match us, hl with | [_, _], _ => rfl
  have H_copied_comb := here_mk (st := s_copied_comb) (ps := ["comb"]) X G a_copied_comb l_copied_comb c_copied_comb k_copied_comb fun F => F.binds fun _ _ _ _ _ _ us hl => match us, hl with | [_], _ => rfl
  have H_is_pitch := here_mk (st := s_is_pitch) (ps := ["value"]) X G a_is_pitch l_is_pitch c_is_pitch k_is_pitch fun F => F.binds fun _ _ _ _ _ _ us hl => match us, hl with | [_], _ => rfl
  have H_are_teeth := here_mk (st := s_are_teeth) (ps := ["value", "pitch"]) X G a_are_teeth l_are_teeth c_are_teeth k_are_teeth fun F => F.binds fun _ _ _ _ _ _ us hl => match us, hl with | [_, _], _ => rfl
  have H_check_comb := here_mk (st := s_check_comb) (ps := ["comb"]) X G a_check_comb l_check_comb c_check_comb k_check_comb fun F => F.binds fun _ _ _ _ _ _ us hl => match us, hl with | [_], _ => rfl
  have H_check_device := here_mk (st := s_check_device) (ps := ["device"]) X G a_check_device l_check_device c_check_device k_check_device fun F => F.binds fun _ _ _ _ _ _ us hl => match us, hl with | [_], _ => rfl
  have H_is_comb := here_mk (st := s_is_comb) (ps := ["value"]) X G a_is_comb l_is_comb c_is_comb k_is_comb fun F => F.binds fun _ _ _ _ _ _ us hl => match us, hl with | [_], _ => rfl
  have H_plain_comb := here_mk (st := s_plain_comb) (ps := ["comb"]) X G a_plain_comb l_plain_comb c_plain_comb k_plain_comb fun F => F.binds fun _ _ _ _ _ _ us hl => match us, hl with | [_], _ => rfl
  have H_teeth_under := here_mk (st := s_teeth_under) (ps := ["teeth", "part"]) X G a_teeth_under l_teeth_under c_teeth_under k_teeth_under fun F => F.binds fun _ _ _ _ _ _ us hl => match us, hl with | [_, _], _ => rfl
  have H_repeated_teeth := here_mk (st := s_repeated_teeth) (ps := ["teeth", "part", "pitch"]) X G a_repeated_teeth l_repeated_teeth c_repeated_teeth k_repeated_teeth fun F => F.binds fun _ _ _ _ _ _ us hl => match us, hl with | [_, _, _], _ => rfl
  have H_is_held := here_mk (st := s_is_held) (ps := ["device", "height", "hand"]) X G a_is_held l_is_held c_is_held k_is_held fun F => F.binds fun _ _ _ _ _ _ us hl => match us, hl with | [_, _, _], _ => rfl
  have H_fits_device := here_mk (st := s_fits_device) (ps := ["device", "value"]) X G a_fits_device l_fits_device c_fits_device k_fits_device fun F => F.binds fun _ _ _ _ _ _ us hl => match us, hl with | [_, _], _ => rfl
  have H_check_state := here_mk (st := s_check_state) (ps := ["device", "state"]) X G a_check_state l_check_state c_check_state k_check_state fun F => F.binds fun _ _ _ _ _ _ us hl => match us, hl with | [_, _], _ => rfl
  have H_comb_slacks := here_mk (st := s_comb_slacks) (ps := ["comb"]) X G a_comb_slacks l_comb_slacks c_comb_slacks k_comb_slacks fun F => F.binds fun _ _ _ _ _ _ us hl => match us, hl with | [_], _ => rfl
  have H_device_slacks := here_mk (st := s_device_slacks) (ps := ["device"]) X G a_device_slacks l_device_slacks c_device_slacks k_device_slacks fun F => F.binds fun _ _ _ _ _ _ us hl => match us, hl with | [_], _ => rfl
  have H_check_begun := here_mk (st := s_check_begun) (ps := ["device", "state"]) X G a_check_begun l_check_begun c_check_begun k_check_begun fun F => F.binds fun _ _ _ _ _ _ us hl => match us, hl with | [_, _], _ => rfl
  have H_check_both := here_mk (st := s_check_both) (ps := ["device", "state", "second", "start"]) X G a_check_both l_check_both c_check_both k_check_both fun F => F.binds fun _ _ _ _ _ _ us hl => match us, hl with | [_, _, _, _], _ => rfl
  have H_shifted_comb := here_mk (st := s_shifted_comb) (ps := ["comb", "distance"]) X G a_shifted_comb l_shifted_comb c_shifted_comb k_shifted_comb fun F => F.binds fun _ _ _ _ _ _ us hl => match us, hl with | [_, _], _ => rfl
  have H_shifted_device := here_mk (st := s_shifted_device) (ps := ["device", "state"]) X G a_shifted_device l_shifted_device c_shifted_device k_shifted_device fun F => F.binds fun _ _ _ _ _ _ us hl => match us, hl with | [_, _], _ => rfl
  have H_are_alike := here_mk (st := s_are_alike) (ps := ["device", "state", "second", "start"]) X G a_are_alike l_are_alike c_are_alike k_are_alike fun F => F.binds fun _ _ _ _ _ _ us hl => match us, hl with | [_, _, _, _], _ => rfl
  have H_parting_size := here_mk (st := s_parting_size) (ps := ["ones", "others", "place"]) X G a_parting_size l_parting_size c_parting_size k_parting_size fun F => F.binds fun _ _ _ _ _ _ us hl => match us, hl with | [_, _, _], _ => rfl
  have H_single_partings := here_mk (st := s_single_partings) (ps := ["first", "second"]) X G a_single_partings l_single_partings c_single_partings k_single_partings fun F => F.binds fun _ _ _ _ _ _ us hl => match us, hl with | [_, _], _ => rfl
  have H_parting_pairs := here_mk (st := s_parting_pairs) (ps := ["ones", "others", "slack", "sign"]) X G a_parting_pairs l_parting_pairs c_parting_pairs k_parting_pairs fun F => F.binds fun _ _ _ _ _ _ us hl => match us, hl with | [_, _, _, _], _ => rfl
  have H_double_partings := here_mk (st := s_double_partings) (ps := ["first", "second"]) X G a_double_partings l_double_partings c_double_partings k_double_partings fun F => F.binds fun _ _ _ _ _ _ us hl => match us, hl with | [_, _], _ => rfl
  have H_parting_rank := here_mk (st := s_parting_rank) (ps := ["moves"]) X G a_parting_rank l_parting_rank c_parting_rank k_parting_rank fun F => F.binds fun _ _ _ _ _ _ us hl => match us, hl with | [_], _ => rfl
  have H_parting_moves := here_mk (st := s_parting_moves) (ps := ["device", "state", "second", "start"]) X G a_parting_moves l_parting_moves c_parting_moves k_parting_moves fun F => F.binds fun _ _ _ _ _ _ us hl => match us, hl with | [_, _, _, _], _ => rfl
  have H__law_jar := here_mk (st := s__law_jar) (ps := ["script", "at"]) X G a__law_jar l__law_jar c__law_jar k__law_jar fun F => F.binds fun _ _ _ _ _ _ us hl => match us, hl with | [_, _], _ => rfl
  have H__law_pick := here_mk (st := s__law_pick) (ps := ["jar", "bound"]) X G a__law_pick l__law_pick c__law_pick k__law_pick fun F => F.binds fun _ _ _ _ _ _ us hl => match us, hl with | [_, _], _ => rfl
  have H__law_comb := here_mk (st := s__law_comb) (ps := ["jar", "most"]) X G a__law_comb l__law_comb c__law_comb k__law_comb fun F => F.binds fun _ _ _ _ _ _ us hl => match us, hl with | [_, _], _ => rfl
  have H__law_pair := here_mk (st := s__law_pair) (ps := ["jar", "most"]) X G a__law_pair l__law_pair c__law_pair k__law_pair fun F => F.binds fun _ _ _ _ _ _ us hl => match us, hl with | [_, _], _ => rfl
  have H__law_under := here_mk (st := s__law_under) (ps := ["comb_here", "spot"]) X G a__law_under l__law_under c__law_under k__law_under fun F => F.binds fun _ _ _ _ _ _ us hl => match us, hl with | [_, _], _ => rfl
  have H__law_rise := here_mk (st := s__law_rise) (ps := ["pair", "start_here", "step"]) X G a__law_rise l__law_rise c__law_rise k__law_rise fun F => F.binds fun _ _ _ _ _ _ us hl => match us, hl with | [_, _, _], _ => rfl
  have H__law_begin := here_mk (st := s__law_begin) (ps := ["pair", "stand"]) X G a__law_begin l__law_begin c__law_begin k__law_begin fun F => F.binds fun _ _ _ _ _ _ us hl => match us, hl with | [_, _], _ => rfl
  have H__law_stand := here_mk (st := s__law_stand) (ps := ["jar", "pair", "far"]) X G a__law_stand l__law_stand c__law_stand k__law_stand fun F => F.binds fun _ _ _ _ _ _ us hl => match us, hl with | [_, _, _], _ => rfl
  have H__law_parts := here_mk (st := s__law_parts) (ps := ["one", "two", "first", "other", "steps"]) X G a__law_parts l__law_parts c__law_parts k__law_parts fun F => F.binds fun _ _ _ _ _ _ us hl => match us, hl with | [_, _, _, _, _], _ => rfl
  have H__law_lists := here_mk (st := s__law_lists) (ps := ["many", "size"]) X G a__law_lists l__law_lists c__law_lists k__law_lists fun F => F.binds fun _ _ _ _ _ _ us hl => match us, hl with | [_, _], _ => rfl
  have H__law_is_least := here_mk (st := s__law_is_least) (ps := ["one", "two", "first", "other", "told"]) X G a__law_is_least l__law_is_least c__law_is_least k__law_is_least fun F => F.binds fun _ _ _ _ _ _ us hl => match us, hl with | [_, _, _, _, _], _ => rfl
  have H__law_right := here_mk (st := s__law_right) (ps := ["jar", "most", "is_small"]) X G a__law_right l__law_right c__law_right k__law_right fun F => F.binds fun _ _ _ _ _ _ us hl => match us, hl with | [_, _, _], _ => rfl
  have H_law := here_mk (st := s_law) (ps := ["script"]) X G a_law l_law c_law k_law fun F => F.binds fun _ _ _ _ _ _ us hl => match us, hl with | [_], _ => rfl
  refine ⟨PySem.W.fnOf "law" "law" (defArgs s_law) (defBody s_law) (defScope s_law) .none kV_law dc_law pm_law an_law cd_law ct_law, fun s v => .of_eq rfl, fun base _ _ => ?_⟩
  have D_is_whole := ok_is_whole (P := l.prog) (w := w) (base := base) T  H_is_whole
  have D_is_pair := ok_is_pair (P := l.prog) (w := w) (base := base) T  H_is_pair
  have D_catches := ok_catches (P := l.prog) (w := w) (base := base) T  H_catches
  have D_floor_catch := ok_floor_catch (P := l.prog) (w := w) (base := base) T  H_floor_catch
  have D_copied_comb := ok_copied_comb (P := l.prog) (w := w) (base := base) T  H_copied_comb
  have D_teeth_under := ok_teeth_under (P := l.prog) (w := w) (base := base) T  H_teeth_under
  have D_parting_size := ok_parting_size (P := l.prog) (w := w) (base := base) T  H_parting_size
  have D_parting_rank := ok_parting_rank (P := l.prog) (w := w) (base := base) T  H_parting_rank
  have D__law_jar := ok__law_jar (P := l.prog) (w := w) (base := base) T  H__law_jar
  have D__law_pick := ok__law_pick (P := l.prog) (w := w) (base := base) T  H__law_pick
  have D__law_under := ok__law_under (P := l.prog) (w := w) (base := base) T  H__law_under
  have D__law_begin := ok__law_begin (P := l.prog) (w := w) (base := base) T  H__law_begin
  have D__law_lists := ok__law_lists (P := l.prog) (w := w) (base := base) T  H__law_lists
  have D_is_whole_pair := ok_is_whole_pair (P := l.prog) (w := w) (base := base) T D_is_pair D_is_whole H_is_whole_pair
  have D_is_pitch := ok_is_pitch (P := l.prog) (w := w) (base := base) T D_is_whole H_is_pitch
  have D_are_teeth := ok_are_teeth (P := l.prog) (w := w) (base := base) T D_is_whole H_are_teeth
  have D_repeated_teeth := ok_repeated_teeth (P := l.prog) (w := w) (base := base) T D_teeth_under H_repeated_teeth
  have D_is_held := ok_is_held (P := l.prog) (w := w) (base := base) T D_catches H_is_held
  have D_comb_slacks := ok_comb_slacks (P := l.prog) (w := w) (base := base) T D_floor_catch H_comb_slacks
  have D_single_partings := ok_single_partings (P := l.prog) (w := w) (base := base) T D_parting_size H_single_partings
  have D_parting_pairs := ok_parting_pairs (P := l.prog) (w := w) (base := base) T D_parting_size H_parting_pairs
  have D__law_comb := ok__law_comb (P := l.prog) (w := w) (base := base) T D__law_pick H__law_comb
  have D__law_rise := ok__law_rise (P := l.prog) (w := w) (base := base) T D__law_under H__law_rise
  have D__law_stand := ok__law_stand (P := l.prog) (w := w) (base := base) T D__law_pick D__law_under H__law_stand
  have D_check_comb := ok_check_comb (P := l.prog) (w := w) (base := base) T D_are_teeth D_is_pair D_is_pitch H_check_comb
  have D_is_comb := ok_is_comb (P := l.prog) (w := w) (base := base) T D_are_teeth D_is_pair D_is_pitch H_is_comb
  have D_fits_device := ok_fits_device (P := l.prog) (w := w) (base := base) T D_is_held D_is_whole_pair H_fits_device
  have D_device_slacks := ok_device_slacks (P := l.prog) (w := w) (base := base) T D_comb_slacks H_device_slacks
  have D_double_partings := ok_double_partings (P := l.prog) (w := w) (base := base) T D_parting_pairs H_double_partings
  have D__law_pair := ok__law_pair (P := l.prog) (w := w) (base := base) T D__law_comb D__law_pick H__law_pair
  have D__law_parts := ok__law_parts (P := l.prog) (w := w) (base := base) T D__law_rise H__law_parts
  have D_check_device := ok_check_device (P := l.prog) (w := w) (base := base) T D_is_comb D_is_pair H_check_device
  have D_plain_comb := ok_plain_comb (P := l.prog) (w := w) (base := base) T D_check_comb D_copied_comb D_repeated_teeth D_teeth_under H_plain_comb
  have D_check_state := ok_check_state (P := l.prog) (w := w) (base := base) T D_fits_device H_check_state
  have D__law_is_least := ok__law_is_least (P := l.prog) (w := w) (base := base) T D__law_lists D__law_parts H__law_is_least
  have D_check_begun := ok_check_begun (P := l.prog) (w := w) (base := base) T D_check_device D_check_state H_check_begun
  have D_shifted_comb := ok_shifted_comb (P := l.prog) (w := w) (base := base) T D_plain_comb H_shifted_comb
  have D_check_both := ok_check_both (P := l.prog) (w := w) (base := base) T D_check_begun H_check_both
  have D_shifted_device := ok_shifted_device (P := l.prog) (w := w) (base := base) T D_shifted_comb H_shifted_device
  have D_are_alike := ok_are_alike (P := l.prog) (w := w) (base := base) T D_check_both D_shifted_device H_are_alike
  have D_parting_moves := ok_parting_moves (P := l.prog) (w := w) (base := base) T D_check_both D_device_slacks D_double_partings D_parting_rank D_shifted_device D_single_partings H_parting_moves
  have D__law_right := ok__law_right (P := l.prog) (w := w) (base := base) T D__law_begin D__law_comb D__law_is_least D__law_pair D__law_parts D__law_pick D__law_stand D_are_alike D_parting_moves H__law_right
  exact ok_law T D__law_jar D__law_right D_parting_moves H_law
end K
open PySem PySem.W PyProof.Rows
set_option maxHeartbeats 0 in
theorem PySem.Challenge.cw_twocombs_k30_parting_moves_holds : PySem.Challenge.rw_twocombs_k30_parting_moves.Holds := by
  w_on; o_law; k_head; (case hw => w_witness2)
  k_fill
  refine PD.fg_end (l := PySem.Challenge.rw_twocombs_k30_parting_moves) (n := 63) (k := 10) (x := "script") (sp := fun w => PD.spLaw (_)) rfl (by decide) rfl ⟨rfl, by decide, by decide⟩ (fun w h Y => PySem.W.kIn_of Y) ?F (fun _ _ a ns hl _ hS => ⟨a, ns, rfl, hS, hl, fun _ => rfl⟩)
  case F =>
    intro w mg fa h KX G hmg
    refine' K.all_mk KX G hmg ?a_is_whole ?l_is_whole ?c_is_whole ?k_is_whole ?a_is_pair ?l_is_pair ?c_is_pair ?k_is_pair ?a_is_whole_pair ?l_is_whole_pair ?c_is_whole_pair ?k_is_whole_pair ?a_catches ?l_catches ?c_catches ?k_catches ?a_floor_catch ?l_floor_catch ?c_floor_catch ?k_floor_catch ?a_copied_comb ?l_copied_comb ?c_copied_comb ?k_copied_comb ?a_is_pitch ?l_is_pitch ?c_is_pitch ?k_is_pitch ?a_are_teeth ?l_are_teeth ?c_are_teeth ?k_are_teeth ?a_check_comb ?l_check_comb ?c_check_comb ?k_check_comb ?a_check_device ?l_check_device ?c_check_device ?k_check_device ?a_is_comb ?l_is_comb ?c_is_comb ?k_is_comb ?a_plain_comb ?l_plain_comb ?c_plain_comb ?k_plain_comb ?a_teeth_under ?l_teeth_under ?c_teeth_under ?k_teeth_under ?a_repeated_teeth ?l_repeated_teeth ?c_repeated_teeth ?k_repeated_teeth ?a_is_held ?l_is_held ?c_is_held ?k_is_held ?a_fits_device ?l_fits_device ?c_fits_device ?k_fits_device ?a_check_state ?l_check_state ?c_check_state ?k_check_state ?a_comb_slacks ?l_comb_slacks ?c_comb_slacks ?k_comb_slacks ?a_device_slacks ?l_device_slacks ?c_device_slacks ?k_device_slacks ?a_check_begun ?l_check_begun ?c_check_begun ?k_check_begun ?a_check_both ?l_check_both ?c_check_both ?k_check_both ?a_shifted_comb ?l_shifted_comb ?c_shifted_comb ?k_shifted_comb ?a_shifted_device ?l_shifted_device ?c_shifted_device ?k_shifted_device ?a_are_alike ?l_are_alike ?c_are_alike ?k_are_alike ?a_parting_size ?l_parting_size ?c_parting_size ?k_parting_size ?a_single_partings ?l_single_partings ?c_single_partings ?k_single_partings ?a_parting_pairs ?l_parting_pairs ?c_parting_pairs ?k_parting_pairs ?a_double_partings ?l_double_partings ?c_double_partings ?k_double_partings ?a_parting_rank ?l_parting_rank ?c_parting_rank ?k_parting_rank ?a_parting_moves ?l_parting_moves ?c_parting_moves ?k_parting_moves ?a__law_jar ?l__law_jar ?c__law_jar ?k__law_jar ?a__law_pick ?l__law_pick ?c__law_pick ?k__law_pick ?a__law_comb ?l__law_comb ?c__law_comb ?k__law_comb ?a__law_pair ?l__law_pair ?c__law_pair ?k__law_pair ?a__law_under ?l__law_under ?c__law_under ?k__law_under ?a__law_rise ?l__law_rise ?c__law_rise ?k__law_rise ?a__law_begin ?l__law_begin ?c__law_begin ?k__law_begin ?a__law_stand ?l__law_stand ?c__law_stand ?k__law_stand ?a__law_parts ?l__law_parts ?c__law_parts ?k__law_parts ?a__law_lists ?l__law_lists ?c__law_lists ?k__law_lists ?a__law_is_least ?l__law_is_least ?c__law_is_least ?k__law_is_least ?a__law_right ?l__law_right ?c__law_right ?k__law_right ?a_law ?l_law ?c_law ?k_law ?z_abs ?z_all ?z_bool ?z_enumerate ?z_int ?z_isinstance ?z_len ?z_list ?z_max ?z_min ?z_range ?z_repr ?z_sorted ?z_sum ?z_tuple ?z_zip ?q_MOST_PITCH ?m_lcm
    (case a_is_whole => k_is); (case l_is_whole => k_is); (case c_is_whole => k_is); (case k_is_whole => k_is); (case a_is_pair => k_is); (case l_is_pair => k_is); (case c_is_pair => k_is); (case k_is_pair => k_is); (case a_is_whole_pair => k_is); (case l_is_whole_pair => k_is); (case c_is_whole_pair => k_is); (case k_is_whole_pair => k_is); (case a_catches => k_is); (case l_catches => k_is); (case c_catches => k_is); (case k_catches => k_is); (case a_floor_catch => k_is); (case l_floor_catch => k_is); (case c_floor_catch => k_is); (case k_floor_catch => k_is); (case a_copied_comb => k_is); (case l_copied_comb => k_is); (case c_copied_comb => k_is); (case k_copied_comb => k_is); (case a_is_pitch => k_is); (case l_is_pitch => k_is); (case c_is_pitch => k_is); (case k_is_pitch => k_is); (case a_are_teeth => k_is); (case l_are_teeth => k_is); (case c_are_teeth => k_is); (case k_are_teeth => k_is); (case a_check_comb => k_is); (case l_check_comb => k_is); (case c_check_comb => k_is); (case k_check_comb => k_is); (case a_check_device => k_is); (case l_check_device => k_is); (case c_check_device => k_is); (case k_check_device => k_is); (case a_is_comb => k_is); (case l_is_comb => k_is); (case c_is_comb => k_is); (case k_is_comb => k_is); (case a_plain_comb => k_is); (case l_plain_comb => k_is); (case c_plain_comb => k_is); (case k_plain_comb => k_is); (case a_teeth_under => k_is); (case l_teeth_under => k_is); (case c_teeth_under => k_is); (case k_teeth_under => k_is); (case a_repeated_teeth => k_is); (case l_repeated_teeth => k_is); (case c_repeated_teeth => k_is); (case k_repeated_teeth => k_is); (case a_is_held => k_is); (case l_is_held => k_is); (case c_is_held => k_is); (case k_is_held => k_is); (case a_fits_device => k_is); (case l_fits_device => k_is); (case c_fits_device => k_is); (case k_fits_device => k_is); (case a_check_state => k_is); (case l_check_state => k_is); (case c_check_state => k_is); (case k_check_state => k_is); (case a_comb_slacks => k_is); (case l_comb_slacks => k_is); (case c_comb_slacks => k_is); (case k_comb_slacks => k_is); (case a_device_slacks => k_is); (case l_device_slacks => k_is); (case c_device_slacks => k_is); (case k_device_slacks => k_is); (case a_check_begun => k_is); (case l_check_begun => k_is); (case c_check_begun => k_is); (case k_check_begun => k_is); (case a_check_both => k_is); (case l_check_both => k_is); (case c_check_both => k_is); (case k_check_both => k_is); (case a_shifted_comb => k_is); (case l_shifted_comb => k_is); (case c_shifted_comb => k_is); (case k_shifted_comb => k_is); (case a_shifted_device => k_is); (case l_shifted_device => k_is); (case c_shifted_device => k_is); (case k_shifted_device => k_is); (case a_are_alike => k_is); (case l_are_alike => k_is); (case c_are_alike => k_is); (case k_are_alike => k_is); (case a_parting_size => k_is); (case l_parting_size => k_is); (case c_parting_size => k_is); (case k_parting_size => k_is); (case a_single_partings => k_is); (case l_single_partings => k_is); (case c_single_partings => k_is); (case k_single_partings => k_is); (case a_parting_pairs => k_is); (case l_parting_pairs => k_is); (case c_parting_pairs => k_is); (case k_parting_pairs => k_is); (case a_double_partings => k_is); (case l_double_partings => k_is); (case c_double_partings => k_is); (case k_double_partings => k_is); (case a_parting_rank => k_is); (case l_parting_rank => k_is); (case c_parting_rank => k_is); (case k_parting_rank => k_is); (case a_parting_moves => k_is); (case l_parting_moves => k_is); (case c_parting_moves => k_is); (case k_parting_moves => k_is); (case a__law_jar => k_is); (case l__law_jar => k_is); (case c__law_jar => k_is); (case k__law_jar => k_is); (case a__law_pick => k_is); (case l__law_pick => k_is); (case c__law_pick => k_is); (case k__law_pick => k_is); (case a__law_comb => k_is); (case l__law_comb => k_is); (case c__law_comb => k_is); (case k__law_comb => k_is); (case a__law_pair => k_is); (case l__law_pair => k_is); (case c__law_pair => k_is); (case k__law_pair => k_is); (case a__law_under => k_is); (case l__law_under => k_is); (case c__law_under => k_is); (case k__law_under => k_is); (case a__law_rise => k_is); (case l__law_rise => k_is); (case c__law_rise => k_is); (case k__law_rise => k_is); (case a__law_begin => k_is); (case l__law_begin => k_is); (case c__law_begin => k_is); (case k__law_begin => k_is); (case a__law_stand => k_is); (case l__law_stand => k_is); (case c__law_stand => k_is); (case k__law_stand => k_is); (case a__law_parts => k_is); (case l__law_parts => k_is); (case c__law_parts => k_is); (case k__law_parts => k_is); (case a__law_lists => k_is); (case l__law_lists => k_is); (case c__law_lists => k_is); (case k__law_lists => k_is); (case a__law_is_least => k_is); (case l__law_is_least => k_is); (case c__law_is_least => k_is); (case k__law_is_least => k_is); (case a__law_right => k_is); (case l__law_right => k_is); (case c__law_right => k_is); (case k__law_right => k_is); (case a_law => k_is); (case l_law => k_is); (case c_law => k_is); (case k_law => k_is); (case z_abs => k_is); (case z_all => k_is); (case z_bool => k_is); (case z_enumerate => k_is); (case z_int => k_is); (case z_isinstance => k_is); (case z_len => k_is); (case z_list => k_is); (case z_max => k_is); (case z_min => k_is); (case z_range => k_is); (case z_repr => k_is); (case z_sorted => k_is); (case z_sum => k_is); (case z_tuple => k_is); (case z_zip => k_is); (case q_MOST_PITCH => k_is); (case m_lcm => k_is)

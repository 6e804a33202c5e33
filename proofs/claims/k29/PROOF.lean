import PyProof.Rows.All
import Wide.All
import OpenK.AllK
import Wide.FinOn
import HandS.ForMost
import HandS.Wide
import HandS.Evl
import HandS.IsInst
import PyProof.ReprRoads
import PyProof.ReprReads
import PyProof.ReprLen
import HandS.Conv
import KE.GoesMore
import HandS.Style
import HandS.Deep
import HandS.SortInts
import HandS.Gcd
import KE.KMathGC
import HandS.TupLen
import HandS.DictComp
import HandS.Zip
import KE.GoesZip
import HandS.SetBool
import HandS.Strs
import PyProof.Rows.SortShellAny
import HandS.Rev
import HandS.TryOnly
import HandS.EndBits
import KE.IntBitsLaws
import PySem.Challenge.RW_twocombs_k29_plain_devices_and_alike_sta
set_option Elab.async false
set_option linter.all false
set_option maxRecDepth 100000
set_option maxHeartbeats 4000000
/-! PD1: data in the heap, states of slots over data, what an expression comes to -/
namespace PD
open PySem PySem.Spec PyProof.Rows L2 Evl
abbrev D := PyData

mutual
/-- the value v bears the data d in the heap G -/
inductive R (G : Hp) : V → D → Prop
  | non : R G .non .none
  | bl (b : Bool) : R G (.bl b) (.bool b)
  | int (i : Int) : R G (.int i) (.int i)
  | str (x : Str) : R G (.str x) (.str x)
  | lst {a : Addr} {xs : List V} {ds : List D} : G a = some (.lst xs) → RA G xs ds → R G (.ref a) (.list ds)
  | tup {a : Addr} {xs : List V} {ds : List D} : G a = some (.tup xs) → RA G xs ds → R G (.ref a) (.tuple ds)
inductive RA (G : Hp) : List V → List D → Prop
  | nil : RA G [] []
  | cons {v : V} {vs : List V} {d : D} {ds : List D} : R G v d → RA G vs ds → RA G (v :: vs) (d :: ds)
end
mutual
theorem R.mono {G G' : Hp} (e : Ex G G') : ∀ (d : D) (v : V), R G v d → R G' v d
  | .none, _, h => by cases h; exact .non
  | .bool b, _, h => by cases h; exact .bl b
  | .int i, _, h => by cases h; exact .int i
  | .str x, _, h => by cases h; exact .str x
  | .list ds, _, h => by
    cases h with
    | lst a b => exact .lst (e _ _ a) (RA.mono e ds _ b)
  | .tuple ds, _, h => by
    cases h with
    | tup a b => exact .tup (e _ _ a) (RA.mono e ds _ b)
  | .dict _, _, h => by cases h
theorem RA.mono {G G' : Hp} (e : Ex G G') : ∀ (ds : List D) (vs : List V), RA G vs ds → RA G' vs ds
  | [], _, h => by cases h; exact .nil
  | d :: ds, _, h => by
    cases h with
    | cons a b => exact .cons (R.mono e d _ a) (RA.mono e ds _ b)
end
theorem R.up {G G' : Hp} {v : V} {d : D} (h : R G v d) (e : Ex G G') : R G' v d := R.mono e d v h
theorem RA.up {G G' : Hp} {v : List V} {d : List D} (h : RA G v d) (e : Ex G G') : RA G' v d := RA.mono e d v h
mutual
theorem R.dp {K : PySem.W.Frag} {G : Hp} : ∀ (d : D) (v : V), R G v d → Dp K G v d
  | .none, _, h => by cases h; exact .non
  | .bool b, _, h => by cases h; exact .bl b
  | .int i, _, h => by cases h; exact .int i
  | .str x, _, h => by cases h; exact .str x
  | .list ds, _, h => by
    cases h with
    | lst a b => exact .lst (SqL.of a) (RA.dp ds _ b)
  | .tuple ds, _, h => by
    cases h with
    | tup a b => exact .tup (SqT.of a) (RA.dp ds _ b)
  | .dict _, _, h => by cases h
theorem RA.dp {K : PySem.W.Frag} {G : Hp} : ∀ (ds : List D) (vs : List V), RA G vs ds → DpAll K G vs ds
  | [], _, h => by cases h; exact .nil
  | d :: ds, _, h => by
    cases h with
    | cons a b => exact .cons (R.dp d _ a) (RA.dp ds _ b)
end
theorem RA.len {G : Hp} : ∀ {vs : List V} {ds : List D}, RA G vs ds → vs.length = ds.length
  | _, _, .nil => rfl
  | _, _, .cons _ t => by rw [List.length_cons, List.length_cons, RA.len t]
theorem RA.get {G : Hp} : ∀ {vs : List V} {ds : List D} {i : Nat} {d : D}, RA G vs ds → ds[i]? = some d → ∃ v, vs[i]? = some v ∧ R G v d
  | _, _, _, _, .nil, e => by simp at e
  | _, _, 0, _, .cons r _, e => by simp at e; subst e; exact ⟨_, rfl, r⟩
  | _, _, i + 1, d, .cons _ t, e => by
    obtain ⟨u, h1, h2⟩ := RA.get (i := i) (d := d) t (by simpa using e)
    exact ⟨u, by simpa using h1, h2⟩
theorem RA.get' {G : Hp} : ∀ {vs : List V} {ds : List D} {i : Nat} {v : V}, RA G vs ds → vs[i]? = some v → ∃ d, ds[i]? = some d ∧ R G v d
  | _, _, _, _, .nil, e => by simp at e
  | _, _, 0, _, .cons r _, e => by simp at e; subst e; exact ⟨_, rfl, r⟩
  | _, _, i + 1, d, .cons _ t, e => by
    obtain ⟨u, h1, h2⟩ := RA.get' (i := i) t (by simpa using e)
    exact ⟨u, by simpa using h1, h2⟩
theorem RA.app {G : Hp} : ∀ {vs : List V} {ds : List D} {us : List V} {es : List D}, RA G vs ds → RA G us es → RA G (vs ++ us) (ds ++ es)
  | _, _, _, _, .nil, s => s
  | _, _, _, _, .cons r t, s => .cons r (RA.app t s)
theorem RA.take {G : Hp} : ∀ {vs : List V} {ds : List D} (n : Nat), RA G vs ds → RA G (vs.take n) (ds.take n)
  | _, _, 0, _ => .nil
  | _, _, _ + 1, .nil => .nil
  | _, _, n + 1, .cons r t => .cons r (RA.take n t)
theorem RA.drop {G : Hp} : ∀ {vs : List V} {ds : List D} (n : Nat), RA G vs ds → RA G (vs.drop n) (ds.drop n)
  | _, _, 0, r => r
  | _, _, _ + 1, .nil => .nil
  | _, _, n + 1, .cons _ t => RA.drop n t
theorem RA.set {G : Hp} {v : V} {d : D} (r : R G v d) : ∀ {vs : List V} {ds : List D} (i : Nat), RA G vs ds → RA G (vs.set i v) (ds.set i d)
  | _, _, _, .nil => .nil
  | _, _, 0, .cons _ t => .cons r t
  | _, _, i + 1, .cons q t => .cons q (RA.set r i t)
theorem RA.dropLast {G : Hp} {vs : List V} {ds : List D} (h : RA G vs ds) : RA G vs.dropLast ds.dropLast := by
  rw [List.dropLast_eq_take, List.dropLast_eq_take, h.len]
  exact h.take _
theorem RA.erase {G : Hp} : ∀ {vs : List V} {ds : List D} (i : Nat), RA G vs ds → RA G (vs.eraseIdx i) (ds.eraseIdx i)
  | _, _, _, .nil => .nil
  | _, _, 0, .cons _ t => t
  | _, _, i + 1, .cons q t => .cons q (RA.erase i t)
theorem RA.ints {G : Hp} : ∀ {vs : List V} {ns : List Int}, RA G vs (ns.map PyData.int) → vs = ns.map V.int
  | _, [], h => by cases h; rfl
  | _, n :: ns, h => by
    cases h with
    | cons a b =>
      cases a
      rw [List.map_cons, RA.ints b]
theorem RA.of_ints {G : Hp} : ∀ (ns : List Int), RA G (ns.map V.int) (ns.map PyData.int)
  | [] => .nil
  | n :: ns => .cons (.int n) (RA.of_ints ns)

/-- what a slot, or an expression, holds: data; an owned list of its own; a raw value -/
inductive W where
  | d (x : D) | o (xs : List D) | v (x : V)

/-- what a def's body keeps: the heap at its entry, the addresses that it does not read or write, its pool, what is pinned -/
structure Cn where
  H0 : Hp
  hd : Addr → Prop
  pool : Option Addr
  pin : Addr → Option HO

abbrev DS := List (Option W)
def VW (G H : Hp) (c : Cn) (v : V) : W → Prop
  | .d x => R G v x
  | .o xs => ∃ p vs, v = .ref p ∧ H p = some (.lst vs) ∧ RA G vs xs ∧ G p = none ∧ c.H0 p = none ∧ c.pin p = none ∧ c.pool ≠ some p ∧ ¬ c.hd p
  | .v x => v = x

structure HS (c : Cn) (G : Hp) (σ : L2.St) (H : Hp) (ds : DS) (pl : List D) : Prop where
  sub : Ex G H
  gh : ∀ a, c.hd a → G a = none
  gq : ∀ a, c.pool = some a → G a = none
  gn : ∀ a o, c.pin a = some o → G a = none
  keep : ∀ a o, c.pool ≠ some a → c.H0 a = some o → H a = some o
  pl : ∀ p, c.pool = some p → ¬ c.hd p ∧ c.pin p = none ∧ ∃ vs, H p = some (.lst vs) ∧ RA G vs pl
  pin : ∀ a o, c.pin a = some o → H a = some o
  hid : ∀ a, c.hd a → ∃ o, H a = some o
  len : σ.length = ds.length
  slots : ∀ (i : Nat) (w : W), ds[i]? = some (some w) → ∃ v, σ[i]? = some (some v) ∧ VW G H c v w
  own : ∀ (i j : Nat) (p : Addr) (xs ys : List D), ds[i]? = some (some (.o xs)) → ds[j]? = some (some (.o ys)) → σ[i]? = some (some (.ref p)) → σ[j]? = some (some (.ref p)) → i = j

theorem VW.up {G G' H H' : Hp} {c : Cn} {v : V} {w : W} (h : VW G H c v w) (e : Ex G G') (eH : ∀ p vs, G p = none → c.H0 p = none → c.pin p = none → c.pool ≠ some p → ¬ c.hd p → H p = some (.lst vs) → H' p = some (.lst vs) ∧ G' p = none) : VW G' H' c v w := by
  cases w with
  | d x => exact R.up h e
  | o xs =>
    obtain ⟨p, vs, a1, a2, a3, a4, a5, a6, a7, a8⟩ := h
    obtain ⟨b1, b2⟩ := eH p vs a4 a5 a6 a7 a8 a2
    exact ⟨p, vs, a1, b1, a3.up e, b2, a5, a6, a7, a8⟩
  | v x => exact h

section
variable {c : Cn} {G H : Hp} {σ : L2.St} {ds : DS} {pl : List D}
theorem HS.none_of (h : HS c G σ H ds pl) {p : Addr} (hp : H p = none) : G p = none ∧ ¬ c.hd p ∧ c.pin p = none ∧ c.pool ≠ some p ∧ c.H0 p = none := by
  refine ⟨?_, fun z => ?_, ?_, fun z => ?_, ?_⟩
  · cases e : G p with
    | none => rfl
    | some o => rw [h.sub p o e] at hp; cases hp
  · obtain ⟨o, e⟩ := h.hid p z
    rw [e] at hp; cases hp
  · cases e : c.pin p with
    | none => rfl
    | some o => rw [h.pin p o e] at hp; cases hp
  · obtain ⟨_, _, vs, e, _⟩ := h.pl p z
    rw [e] at hp; cases hp
  · cases e : c.H0 p with
    | none => rfl
    | some o =>
      by_cases z : c.pool = some p
      · obtain ⟨_, _, vs, e2, _⟩ := h.pl p z
        rw [e2] at hp; cases hp
      · rw [h.keep p o z e] at hp; cases hp
/-- a new object, tracked as data -/
theorem HS.newD (h : HS c G σ H ds pl) {p : Addr} {o : HO} (hp : H p = none) : HS c (upd G p o) σ (upd H p o) ds pl := by
  obtain ⟨n1, n2, n3, n4, n5⟩ := h.none_of hp
  have eG : Ex G (upd G p o) := Ex.new n1
  have eH : Ex H (upd H p o) := Ex.new hp
  refine ⟨fun a u q => ?_, fun a q => ?_, fun a q => ?_, fun a u q => ?_, fun a u q1 q2 => eH _ _ (h.keep a u q1 q2), fun q z => ?_, fun a u q => eH _ _ (h.pin a u q), fun a q => ?_, h.len, fun i w q => ?_, h.own⟩
  · by_cases z : a = p
    · subst z; rw [upd_same] at q ⊢; exact q
    · rw [upd_ne z] at q ⊢; exact h.sub a u q
  · rw [upd_ne (fun z : a = p => n2 (z ▸ q))]; exact h.gh a q
  · rw [upd_ne (fun z : a = p => n4 (z ▸ q))]; exact h.gq a q
  · rw [upd_ne (fun z => by rw [z, n3] at q; cases q)]; exact h.gn a u q
  · obtain ⟨b1, b2, vs, b3, b4⟩ := h.pl q z
    exact ⟨b1, b2, vs, eH _ _ b3, b4.up eG⟩
  · obtain ⟨u, e⟩ := h.hid a q
    exact ⟨u, eH _ _ e⟩
  · obtain ⟨v, e1, e2⟩ := h.slots i w q
    refine ⟨v, e1, e2.up eG fun q vs a1 a2 a3 a4 a5 a6 => ⟨eH _ _ a6, ?_⟩⟩
    rw [upd_ne (ne_of_none a6 hp)]; exact a1
/-- a new object, not in the data -/
theorem HS.newH (h : HS c G σ H ds pl) {p : Addr} {o : HO} (hp : H p = none) : HS c G σ (upd H p o) ds pl := by
  have eH : Ex H (upd H p o) := Ex.new hp
  refine ⟨fun a u q => eH _ _ (h.sub a u q), h.gh, h.gq, h.gn, fun a u q1 q2 => eH _ _ (h.keep a u q1 q2), fun q z => ?_, fun a u q => eH _ _ (h.pin a u q), fun a q => ?_, h.len, fun i w q => ?_, h.own⟩
  · obtain ⟨b1, b2, vs, b3, b4⟩ := h.pl q z
    exact ⟨b1, b2, vs, eH _ _ b3, b4⟩
  · obtain ⟨u, e⟩ := h.hid a q
    exact ⟨u, eH _ _ e⟩
  · obtain ⟨v, e1, e2⟩ := h.slots i w q
    exact ⟨v, e1, e2.up (Ex.refl _) fun q vs a1 a2 a3 a4 a5 a6 => ⟨eH _ _ a6, a1⟩⟩
/-- the pool changed -/
theorem HS.setPool (h : HS c G σ H ds pl) {p : Addr} (z : c.pool = some p) {us : List V} {pl' : List D} (hr : RA G us pl') : HS c G σ (upd H p (.lst us)) ds pl' := by
  obtain ⟨b1, b2, vs, b3, b4⟩ := h.pl p z
  have ne : ∀ a, a ≠ p → (upd H p (.lst us)) a = H a := fun a q => upd_ne q
  refine ⟨fun a u q => ?_, h.gh, h.gq, h.gn, fun a u q1 q2 => ?_, fun q z' => ?_, fun a u q => ?_, fun a q => ?_, h.len, fun i w q => ?_, h.own⟩
  · rw [ne a (fun e => by rw [e, h.gq p z] at q; cases q)]; exact h.sub a u q
  · rw [ne a (fun e => q1 (e ▸ z))]; exact h.keep a u q1 q2
  · have e : q = p := by rw [z] at z'; exact (Option.some.inj z').symm
    subst e
    exact ⟨b1, b2, us, upd_same, hr⟩
  · rw [ne a (fun e => by rw [e, b2] at q; cases q)]; exact h.pin a u q
  · rw [ne a (fun e => b1 (e ▸ q))]; exact h.hid a q
  · obtain ⟨v, e1, e2⟩ := h.slots i w q
    refine ⟨v, e1, e2.up (Ex.refl _) fun q vs a1 a2 a3 a4 a5 a6 => ⟨?_, a1⟩⟩
    rw [ne q (fun e => a4 (e ▸ z))]; exact a6
end

/-! ### what an expression comes to -/
def WE (c : Cn) (te : TE) (ds : DS) (pl : List D) (Φ : W → List D → Prop) : Prop := ∀ G σ H, HS c G σ H ds pl → ∀ Q : VK,
  (∀ v G' H' w pl', HS c G' σ H' ds pl' → Ex G G' → VW G' H' c v w → Φ w pl' → Q v H') → te σ H Q
def WA (c : Cn) (ta : TA) (ds : DS) (pl : List D) (Φ : List D → List D → Prop) : Prop := ∀ G σ H, HS c G σ H ds pl → ∀ Q : List V → Hp → Prop,
  (∀ vs G' H' xs pl', HS c G' σ H' ds pl' → Ex G G' → RA G' vs xs → Φ xs pl' → Q vs H') → ta σ H Q
def WT (c : Cn) (tt : TT) (ds : DS) (pl : List D) (Φ : Bool → List D → Prop) : Prop := ∀ G σ H, HS c G σ H ds pl → ∀ Q : Bool → Hp → Prop,
  (∀ b G' H' pl', HS c G' σ H' ds pl' → Ex G G' → Φ b pl' → Q b H') → tt σ H Q

/-- patterns of what comes -/
abbrev isD (k : D → List D → Prop) : W → List D → Prop := fun w pl => match w with
  | .d x => k x pl
  | _ => False
abbrev isI (k : Int → List D → Prop) : W → List D → Prop := fun w pl => match w with
  | .d (.int i) => k i pl
  | _ => False
abbrev isB (k : Bool → List D → Prop) : W → List D → Prop := fun w pl => match w with
  | .d (.bool i) => k i pl
  | _ => False
/-- data, or an owned list read as data -/
abbrev isS (k : D → List D → Prop) : W → List D → Prop := fun w pl => match w with
  | .d x => k x pl
  | .o xs => k (.list xs) pl
  | _ => False

def dV : V → D
  | .non => .none
  | .bl b => .bool b
  | .int i => .int i
  | .str x => .str x
  | _ => .none
def plainV : V → Bool
  | .non | .bl _ | .int _ | .str _ => true
  | _ => false
theorem r_dV {G : Hp} : ∀ {v : V}, plainV v = true → R G v (dV v)
  | .non, _ => .non
  | .bl b, _ => .bl b
  | .int i, _ => .int i
  | .str x, _ => .str x
  | .byt _, h => by cases h
  | .flt _, h => by cases h
  | .ref _, h => by cases h
  | .ty _, h => by cases h

section
variable {c : Cn} {K : PySem.W.Frag} {ds : DS} {pl : List D} {Φ : W → List D → Prop} {ta tb te : TE} {tr : TA}
theorem WE.mono {Ψ : W → List D → Prop} (h : WE c te ds pl Φ) (k : ∀ w pl', Φ w pl' → Ψ w pl') : WE c te ds pl Ψ := fun G σ H hs Q q => h G σ H hs Q fun v G' H' w pl' a b e f => q v G' H' w pl' a b e (k w pl' f)
theorem WA.mono {Ψ Φ : List D → List D → Prop} (h : WA c tr ds pl Φ) (k : ∀ w pl', Φ w pl' → Ψ w pl') : WA c tr ds pl Ψ := fun G σ H hs Q q => h G σ H hs Q fun v G' H' w pl' a b e f => q v G' H' w pl' a b e (k w pl' f)
theorem WT.mono {tt : TT} {Ψ Φ : Bool → List D → Prop} (h : WT c tt ds pl Φ) (k : ∀ w pl', Φ w pl' → Ψ w pl') : WT c tt ds pl Ψ := fun G σ H hs Q q => h G σ H hs Q fun v G' H' pl' a b f => q v G' H' pl' a b (k v pl' f)

theorem we_var {i : Nat} {w : W} (hi : ds[i]? = some (some w)) (h : Φ w pl) : WE c (tVar i) ds pl Φ := fun G σ H hs Q q => by
  obtain ⟨v, e1, e2⟩ := hs.slots i w hi
  exact ⟨v, e1, q v G H w pl hs (Ex.refl _) e2 h⟩
theorem we_c {v : V} (hv : plainV v = true) (h : Φ (.d (dV v)) pl) : WE c (tC v) ds pl Φ := fun G σ H hs Q q => q v G H (.d _) pl hs (Ex.refl _) (r_dV hv) h
theorem we_int {i : Int} (h : Φ (.d (.int i)) pl) : WE c (tC (.int i)) ds pl Φ := we_c rfl h
theorem we_bl {i : Bool} (h : Φ (.d (.bool i)) pl) : WE c (tC (.bl i)) ds pl Φ := we_c rfl h
theorem we_str {i : Str} (h : Φ (.d (.str i)) pl) : WE c (tC (.str i)) ds pl Φ := we_c rfl h
theorem we_non (h : Φ (.d .none) pl) : WE c (tC .non) ds pl Φ := we_c rfl h

/-- a value as an operand: data, or an owned list read -/
def RT (G H : Hp) (v : V) (x : D) : Prop := R G v x ∨ ∃ p vs xs, v = .ref p ∧ x = .list xs ∧ H p = some (.lst vs) ∧ RA G vs xs
theorem RT.h {G H : Hp} {v : V} {x : D} (h : RT G H v x) (s : Ex G H) : R H v x := by
  rcases h with h | ⟨p, vs, xs, rfl, rfl, a, b⟩
  · exact h.up s
  · exact .lst a (b.up s)
theorem RT.list {G H : Hp} {v : V} {xs : List D} (h : RT G H v (.list xs)) (s : Ex G H) : ∃ p vs, v = .ref p ∧ H p = some (.lst vs) ∧ RA G vs xs := by
  rcases h with h | ⟨p, vs, ys, rfl, e, a, b⟩
  · cases h with
    | lst a b => exact ⟨_, _, rfl, s _ _ a, b⟩
  · cases e
    exact ⟨p, vs, rfl, a, b⟩
theorem RT.tup {G H : Hp} {v : V} {xs : List D} (h : RT G H v (.tuple xs)) (s : Ex G H) : ∃ p vs, v = .ref p ∧ H p = some (.tup vs) ∧ RA G vs xs := by
  rcases h with h | ⟨p, vs, ys, rfl, e, a, b⟩
  · cases h with
    | tup a b => exact ⟨_, _, rfl, s _ _ a, b⟩
  · cases e
theorem RT.int {G H : Hp} {v : V} {i : Int} (h : RT G H v (.int i)) : v = .int i := by
  rcases h with h | ⟨p, vs, ys, rfl, e, a, b⟩
  · cases h; rfl
  · cases e
theorem RT.bl {G H : Hp} {v : V} {i : Bool} (h : RT G H v (.bool i)) : v = .bl i := by
  rcases h with h | ⟨p, vs, ys, rfl, e, a, b⟩
  · cases h; rfl
  · cases e
theorem RT.str {G H : Hp} {v : V} {i : Str} (h : RT G H v (.str i)) : v = .str i := by
  rcases h with h | ⟨p, vs, ys, rfl, e, a, b⟩
  · cases h; rfl
  · cases e
theorem RT.non {G H : Hp} {v : V} (h : RT G H v .none) : v = .non := by
  rcases h with h | ⟨p, vs, ys, rfl, e, a, b⟩
  · cases h; rfl
  · cases e
/-- what comes, and what stood keeps standing -/
def Co (c : Cn) (ds : DS) (G : Hp) (σ : L2.St) (Φ : W → List D → Prop) (Q : VK) : Prop := ∀ z G' H' w p3, HS c G' σ H' ds p3 → Ex G G' → VW G' H' c z w → Φ w p3 → Q z H'
def OpS (c : Cn) (r : R2) (ds : DS) (x y : D) (p2 : List D) (Φ : W → List D → Prop) : Prop := ∀ G σ H v u, HS c G σ H ds p2 → RT G H v x → RT G H u y → ∀ Q : VK, Co c ds G σ Φ Q → r v u H Q
theorem we_op {r : R2} (ha : WE c ta ds pl (isD fun x p1 => WE c tb ds p1 (isS fun y p2 => OpS c r ds x y p2 Φ))) : WE c (tOp r ta tb) ds pl Φ := by
  intro G σ H hs Q q
  refine ha G σ H hs _ fun v G1 H1 w p1 h1 e1 f1 g1 => ?_
  cases w with
  | v x => exact g1.elim
  | o xs => exact g1.elim
  | d x =>
    refine g1 G1 σ H1 h1 _ fun u G2 H2 w2 p2 h2 e2 f2 g2 => ?_
    have f1' : R G2 v x := R.up (show R G1 v x from f1) e2
    cases w2 with
    | v x => exact g2.elim
    | d y => exact g2 G2 σ H2 v u h2 (.inl f1') (.inl f2) Q fun z G' H' w p3 a b e f => q z G' H' w p3 a ((e1.trans e2).trans b) e f
    | o ys =>
      obtain ⟨p, us, rfl, a2, a3, _⟩ := f2
      exact g2 G2 σ H2 v _ h2 (.inl f1') (.inr ⟨p, us, ys, rfl, rfl, a2, a3⟩) Q fun z G' H' w p3 a b e f => q z G' H' w p3 a ((e1.trans e2).trans b) e f
/-- the left operand an owned list -/
theorem we_opV {r : R2} {i : Nat} {xs : List D} (hi : ds[i]? = some (some (.o xs))) (hb : WE c tb ds pl (isS fun y p2 => OpS c r ds (.list xs) y p2 Φ)) : WE c (tOp r (tVar i) tb) ds pl Φ := by
  intro G σ H hs Q q
  obtain ⟨v, e1, e2⟩ := hs.slots i _ hi
  refine ⟨v, e1, ?_⟩
  refine hb G σ H hs _ fun u G2 H2 w2 p2 h2 e2' f2 g2 => ?_
  obtain ⟨v', e1', p0, us0, rfl, a20, a30, _⟩ := h2.slots i _ hi
  have ev : v = .ref p0 := by rw [e1] at e1'; exact Option.some.inj (Option.some.inj e1')
  subst ev
  cases w2 with
  | v x => exact g2.elim
  | d y => exact g2 G2 σ H2 _ u h2 (.inr ⟨p0, us0, xs, rfl, rfl, a20, a30⟩) (.inl f2) Q fun z G' H' w p3 a b e f => q z G' H' w p3 a (e2'.trans b) e f
  | o ys =>
    obtain ⟨p, us, rfl, a2, a3, _⟩ := f2
    exact g2 G2 σ H2 _ _ h2 (.inr ⟨p0, us0, xs, rfl, rfl, a20, a30⟩) (.inr ⟨p, us, ys, rfl, rfl, a2, a3⟩) Q fun z G' H' w p3 a b e f => q z G' H' w p3 a (e2'.trans b) e f

/-! ### operations -/
theorem os_I0 {g : Int → Int → V} {i j : Int} {p2 : List D} (hp : plainV (g i j) = true) (h : Φ (.d (dV (g i j))) p2) : OpS c (rI0 g) ds (.int i) (.int j) p2 Φ := fun G σ H v u hs hv hu Q q =>
  ⟨i, j, hv.int, hu.int, q _ G H (.d _) p2 hs (Ex.refl _) (r_dV hp) h⟩
theorem os_I {C : Int → Int → Prop} {g : Int → Int → V} {i j : Int} {p2 : List D} (hc : C i j) (hp : plainV (g i j) = true) (h : Φ (.d (dV (g i j))) p2) : OpS c (rI C g) ds (.int i) (.int j) p2 Φ := fun G σ H v u hs hv hu Q q =>
  ⟨i, j, hv.int, hu.int, hc, q _ G H (.d _) p2 hs (Ex.refl _) (r_dV hp) h⟩
theorem os_eqD {x y : D} {p2 : List D} (h1 : SeqAt.shaped x = true) (h2 : SeqAt.shaped y = true) (h : Φ (.d (.bool (PyData.eqv x y))) p2) : OpS c (rEqD K) ds x y p2 Φ := fun G σ H v u hs hv hu Q q =>
  ⟨x, y, R.dp _ _ (hv.h hs.sub), R.dp _ _ (hu.h hs.sub), h1, h2, q _ G H (.d _) p2 hs (Ex.refl _) (R.bl _) h⟩
theorem os_neD {x y : D} {p2 : List D} (h1 : SeqAt.shaped x = true) (h2 : SeqAt.shaped y = true) (h : Φ (.d (.bool (!PyData.eqv x y))) p2) : OpS c (rNeD K) ds x y p2 Φ := fun G σ H v u hs hv hu Q q =>
  ⟨x, y, R.dp _ _ (hv.h hs.sub), R.dp _ _ (hu.h hs.sub), h1, h2, q _ G H (.d _) p2 hs (Ex.refl _) (R.bl _) h⟩
def ixD (x : D) (i : Int) : Option D := match x with
  | .list xs => atI xs i
  | .tuple xs => atI xs i
  | .str z => if z.length ≤ sizeLine then (atI z.cps.toList i).map fun k => .str ⟨#[k]⟩ else none
  | _ => none
theorem atI_RA {G : Hp} {vs : List V} {xs : List D} {i : Int} {e : D} (h : RA G vs xs) (ha : atI xs i = some e) : ∃ v, atI vs i = some v ∧ R G v e := by
  unfold atI at ha ⊢
  rw [h.len]
  cases q : ixN xs.length i with
  | none => rw [q] at ha; cases ha
  | some j =>
    rw [q] at ha
    exact h.get ha
theorem os_ix {x e : D} {i : Int} {p2 : List D} (he : ixD x i = some e) (h : Φ (.d e) p2) : OpS c (rIx K) ds x (.int i) p2 Φ := fun G σ H v u hs hv hu Q q => by
  have eu := hu.int
  subst eu
  cases x with
  | list xs =>
    obtain ⟨p, vs, rfl, a, b⟩ := hv.list hs.sub
    obtain ⟨z, z1, z2⟩ := atI_RA b (show atI xs i = some e from he)
    exact .inl ⟨p, vs, i, z, rfl, rfl, SqL.of a, z1, q z G H (.d _) p2 hs (Ex.refl _) (show R G z e from z2) h⟩
  | tuple xs =>
    obtain ⟨p, vs, rfl, a, b⟩ := hv.tup hs.sub
    obtain ⟨z, z1, z2⟩ := atI_RA b (show atI xs i = some e from he)
    exact .inr (.inl ⟨p, vs, i, z, rfl, rfl, SqT.of a, z1, q z G H (.d _) p2 hs (Ex.refl _) (show R G z e from z2) h⟩)
  | str z =>
    have ev := hv.str
    subst ev
    have he' : (if z.length ≤ sizeLine then (atI z.cps.toList i).map fun k => (PyData.str ⟨#[k]⟩) else none) = some e := he
    by_cases hz : z.length ≤ sizeLine
    · rw [if_pos hz] at he'
      cases q1 : atI z.cps.toList i with
      | none => rw [q1] at he'; cases he'
      | some k =>
        rw [q1] at he'
        cases he'
        exact .inr (.inr ⟨z, i, k, rfl, rfl, hz, q1, q _ G H (.d _) p2 hs (Ex.refl _) (R.str _) h⟩)
    · rw [if_neg hz] at he'; cases he'
  | none => cases he
  | bool _ => cases he
  | int _ => cases he
  | dict _ => cases he
theorem flat_ints (ns : List Int) : (ns.map V.int).all flatV = true := by
  rw [List.all_map]
  exact List.all_eq_true.mpr fun _ _ => rfl
theorem inV_ints (i : Int) : ∀ ns : List Int, inV (.int i) (ns.map V.int) = decide (i ∈ ns)
  | [] => by simp [inV]
  | n :: ns => by
    have ih := inV_ints i ns
    unfold inV at ih ⊢
    rw [List.map_cons, List.any_cons, ih]
    have e : eqV (.int n) (.int i) = decide (i = n) := by
      show (n == i) = decide (i = n)
      by_cases z : i = n
      · subst z; simp
      · have z' : ¬ n = i := fun q => z q.symm
        simp [z, z']
    rw [e]
    simp
theorem os_in {i : Int} {ns : List Int} {p2 : List D} (h : Φ (.d (.bool (decide (i ∈ ns)))) p2) : OpS c (rIn K false) ds (.int i) (.list (ns.map PyData.int)) p2 Φ := fun G σ H v u hs hv hu Q q => by
  have ev := hv.int
  subst ev
  obtain ⟨p, vs, rfl, a, b⟩ := hu.list hs.sub
  have evs := b.ints
  subst evs
  refine ⟨p, _, rfl, .inl (SqL.of a), rfl, flat_ints ns, ?_⟩
  show Q (.bl (inV (.int i) (ns.map V.int))) H
  rw [inV_ints]
  exact q _ G H (.d _) p2 hs (Ex.refl _) (R.bl _) h
theorem os_notin {i : Int} {ns : List Int} {p2 : List D} (h : Φ (.d (.bool (!decide (i ∈ ns)))) p2) : OpS c (rIn K true) ds (.int i) (.list (ns.map PyData.int)) p2 Φ := fun G σ H v u hs hv hu Q q => by
  have ev := hv.int
  subst ev
  obtain ⟨p, vs, rfl, a, b⟩ := hu.list hs.sub
  have evs := b.ints
  subst evs
  refine ⟨p, _, rfl, .inl (SqL.of a), rfl, flat_ints ns, ?_⟩
  show Q (.bl (!inV (.int i) (ns.map V.int))) H
  rw [inV_ints]
  exact q _ G H (.d _) p2 hs (Ex.refl _) (R.bl _) h
/-- a new list of two joined -/
theorem os_cat {xs ys : List D} {p2 : List D} (hl : xs.length + ys.length ≤ sizeLine) (h : Φ (.d (.list (xs ++ ys))) p2) : OpS c rCat ds (.list xs) (.list ys) p2 Φ := fun G σ H v u hs hv hu Q q => by
  obtain ⟨p, vs, rfl, a, b⟩ := hv.list hs.sub
  obtain ⟨p', us, rfl, a', b'⟩ := hu.list hs.sub
  refine ⟨p, p', vs, us, rfl, rfl, a, a', by rw [b.len, b'.len]; exact hl, fun l hl => ?_⟩
  have n := hs.none_of hl
  exact q _ _ _ (.d _) p2 (hs.newD hl) (Ex.new n.1) (show R _ (.ref l) (.list (xs ++ ys)) from .lst upd_same ((b.app b').up (Ex.new n.1))) h

/-! ### unary, displays, tests -/
theorem we_neg (ha : WE c ta ds pl (isI fun i p1 => Φ (.d (.int (-i))) p1)) : WE c (tUn (rU fun i => .int (-i)) ta) ds pl Φ := fun G σ H hs Q q =>
  ha G σ H hs _ fun v G1 H1 w p1 h1 e1 f1 g1 => by
    match w, f1, g1 with
    | .d (.int i), f1, g1 =>
      cases f1
      exact ⟨i, rfl, q _ G1 H1 (.d _) p1 h1 e1 (R.int _) g1⟩
theorem wa_nil {Φ : List D → List D → Prop} (h : Φ [] pl) : WA c tNil ds pl Φ := fun G σ H hs Q q => q [] G H [] pl hs (Ex.refl _) .nil h
theorem wa_cons {Φ : List D → List D → Prop} (ha : WE c ta ds pl (isD fun x p1 => WA c tr ds p1 fun xs p2 => Φ (x :: xs) p2)) : WA c (tCons ta tr) ds pl Φ := fun G σ H hs Q q =>
  ha G σ H hs _ fun v G1 H1 w p1 h1 e1 f1 g1 => by
    match w, f1, g1 with
    | .d x, f1, g1 =>
      exact g1 G1 σ H1 h1 _ fun vs G2 H2 xs p2 h2 e2 f2 g2 => q (v :: vs) G2 H2 (x :: xs) p2 h2 (e1.trans e2) (.cons (R.up f1 e2) f2) g2
theorem we_tup (ha : WA c tr ds pl fun xs p1 => xs.length ≤ sizeLine ∧ Φ (.d (.tuple xs)) p1) : WE c (tTup tr) ds pl Φ := fun G σ H hs Q q =>
  ha G σ H hs _ fun vs G1 H1 xs p1 h1 e1 f1 g1 => ⟨by rw [f1.len]; exact g1.1, fun p hp => by
    have n := h1.none_of hp
    exact q _ _ _ (.d _) p1 (h1.newD hp) (e1.trans (Ex.new n.1)) (show R _ (.ref p) (.tuple xs) from .tup upd_same (f1.up (Ex.new n.1))) g1.2⟩
theorem we_lst (ha : WA c tr ds pl fun xs p1 => xs.length ≤ sizeLine ∧ Φ (.d (.list xs)) p1) : WE c (tLst tr) ds pl Φ := fun G σ H hs Q q =>
  ha G σ H hs _ fun vs G1 H1 xs p1 h1 e1 f1 g1 => ⟨by rw [f1.len]; exact g1.1, fun p hp => by
    have n := h1.none_of hp
    exact q _ _ _ (.d _) p1 (h1.newD hp) (e1.trans (Ex.new n.1)) (show R _ (.ref p) (.list xs) from .lst upd_same (f1.up (Ex.new n.1))) g1.2⟩
/-- a list display that is owned -/
theorem we_lstO (ha : WA c tr ds pl fun xs p1 => xs.length ≤ sizeLine ∧ Φ (.o xs) p1) : WE c (tLst tr) ds pl Φ := fun G σ H hs Q q =>
  ha G σ H hs _ fun vs G1 H1 xs p1 h1 e1 f1 g1 => ⟨by rw [f1.len]; exact g1.1, fun p hp => by
    obtain ⟨n1, n2, n3, n4, n5⟩ := h1.none_of hp
    exact q _ G1 _ (.o xs) p1 (h1.newH hp) e1 ⟨p, vs, rfl, upd_same, f1, n1, n5, n3, n4, n2⟩ g1.2⟩

section
variable {tt tu : TT} {Ψ : Bool → List D → Prop}
theorem wt_B (h : WE c te ds pl (isB Ψ)) : WT c (tB te) ds pl Ψ := fun G σ H hs Q q => h G σ H hs _ fun v G1 H1 w p1 h1 e1 f1 g1 => by
  match w, f1, g1 with
  | .d (.bool b), f1, g1 =>
    cases f1
    exact ⟨b, rfl, q b G1 H1 p1 h1 e1 g1⟩
theorem wt_T (h : WE c te ds pl (isB Ψ)) : WT c (tTest te) ds pl Ψ := wt_B h
theorem wt_and (h : WT c tt ds pl fun b p1 => if b = true then WT c tu ds p1 Ψ else Ψ false p1) : WT c (tAnd tt tu) ds pl Ψ := fun G σ H hs Q q => h G σ H hs _ fun b G1 H1 p1 h1 e1 g1 => by
  cases b with
  | true => exact (show WT c tu ds p1 Ψ from g1) G1 σ H1 h1 Q fun b2 G2 H2 p2 h2 e2 g2 => q b2 G2 H2 p2 h2 (e1.trans e2) g2
  | false => exact q false G1 H1 p1 h1 e1 g1
theorem wt_or (h : WT c tt ds pl fun b p1 => if b = true then Ψ true p1 else WT c tu ds p1 Ψ) : WT c (tOr tt tu) ds pl Ψ := fun G σ H hs Q q => h G σ H hs _ fun b G1 H1 p1 h1 e1 g1 => by
  cases b with
  | true => exact q true G1 H1 p1 h1 e1 g1
  | false => exact (show WT c tu ds p1 Ψ from g1) G1 σ H1 h1 Q fun b2 G2 H2 p2 h2 e2 g2 => q b2 G2 H2 p2 h2 (e1.trans e2) g2
theorem wt_not (h : WT c tt ds pl fun b p1 => Ψ (!b) p1) : WT c (tNot tt) ds pl Ψ := fun G σ H hs Q q => h G σ H hs _ fun b G1 H1 p1 h1 e1 g1 => q (!b) G1 H1 p1 h1 e1 g1
theorem wt_yes (h : Ψ true pl) : WT c tYes ds pl Ψ := fun G σ H hs Q q => q true G H pl hs (Ex.refl _) h
theorem we_if (h : WT c tt ds pl fun b p1 => if b = true then WE c ta ds p1 Φ else WE c tb ds p1 Φ) : WE c (tIf tt ta tb) ds pl Φ := fun G σ H hs Q q => h G σ H hs _ fun b G1 H1 p1 h1 e1 g1 => by
  cases b with
  | true => exact (show WE c ta ds p1 Φ from g1) G1 σ H1 h1 Q fun v G2 H2 w p2 h2 e2 f2 g2 => q v G2 H2 w p2 h2 (e1.trans e2) f2 g2
  | false => exact (show WE c tb ds p1 Φ from g1) G1 σ H1 h1 Q fun v G2 H2 w p2 h2 e2 f2 g2 => q v G2 H2 w p2 h2 (e1.trans e2) f2 g2
theorem we_andV (h : WE c ta ds pl (isB fun b p1 => if b = true then WE c tb ds p1 Φ else Φ (.d (.bool false)) p1)) : WE c (tAndV ta tb) ds pl Φ := fun G σ H hs Q q => h G σ H hs _ fun v G1 H1 w p1 h1 e1 f1 g1 => by
  match w, f1, g1 with
  | .d (.bool b), f1, g1 =>
    cases f1
    refine ⟨b, rfl, ?_⟩
    cases b with
    | true => exact (show WE c tb ds p1 Φ from g1) G1 σ H1 h1 Q fun v G2 H2 w p2 h2 e2 f2 g2 => q v G2 H2 w p2 h2 (e1.trans e2) f2 g2
    | false => exact q _ G1 H1 (.d _) p1 h1 e1 (R.bl false) g1
theorem we_orV (h : WE c ta ds pl (isB fun b p1 => if b = true then Φ (.d (.bool true)) p1 else WE c tb ds p1 Φ)) : WE c (tOrV ta tb) ds pl Φ := fun G σ H hs Q q => h G σ H hs _ fun v G1 H1 w p1 h1 e1 f1 g1 => by
  match w, f1, g1 with
  | .d (.bool b), f1, g1 =>
    cases f1
    refine ⟨b, rfl, ?_⟩
    cases b with
    | true => exact q _ G1 H1 (.d _) p1 h1 e1 (R.bl true) g1
    | false => exact (show WE c tb ds p1 Φ from g1) G1 σ H1 h1 Q fun v G2 H2 w p2 h2 e2 f2 g2 => q v G2 H2 w p2 h2 (e1.trans e2) f2 g2
theorem we_notV (h : WE c ta ds pl (isB fun b p1 => Φ (.d (.bool (!b))) p1)) : WE c (tNotV ta) ds pl Φ := fun G σ H hs Q q => h G σ H hs _ fun v G1 H1 w p1 h1 e1 f1 g1 => by
  match w, f1, g1 with
  | .d (.bool b), f1, g1 =>
    cases f1
    exact ⟨b, rfl, q _ G1 H1 (.d _) p1 h1 e1 (R.bl _) g1⟩
/-- truth of data -/
def truD : D → Bool
  | .none => false
  | .bool b => b
  | .int i => i != 0
  | .str y => (y.length : Int) != 0
  | .list xs => !xs.isEmpty
  | .tuple xs => !xs.isEmpty
  | .dict xs => !xs.isEmpty
def truOk : D → Bool
  | .str y => decide (y.length ≤ sizeLine)
  | .dict _ => false
  | _ => true
theorem empty_RA {G : Hp} {vs : List V} {xs : List D} (h : RA G vs xs) : (!vs.isEmpty) = !xs.isEmpty := by cases h <;> rfl
theorem tru_RT {G H : Hp} {v : V} {x : D} (s : Ex G H) (h : RT G H v x) (ok : truOk x = true) : TruV K v H (truD x) := by
  cases x with
  | none => rw [h.non]; exact rfl
  | bool b => rw [h.bl]; exact rfl
  | int i => rw [h.int]; exact rfl
  | str y => rw [h.str]; exact ⟨of_decide_eq_true ok, rfl⟩
  | list xs =>
    obtain ⟨p, vs, rfl, a, b⟩ := h.list s
    exact .inl ⟨vs, SqL.of a, (empty_RA b).symm⟩
  | tuple xs =>
    obtain ⟨p, vs, rfl, a, b⟩ := h.tup s
    exact .inr (.inl ⟨vs, SqT.of a, (empty_RA b).symm⟩)
  | dict _ => cases ok
theorem wt_tru (h : WE c te ds pl (isS fun x p1 => truOk x = true ∧ Ψ (truD x) p1)) : WT c (fun σ H Q => te σ H fun x H' => ∃ k, TruV K x H' k ∧ Q k H') ds pl Ψ := fun G σ H hs Q q => h G σ H hs _ fun v G1 H1 w p1 h1 e1 f1 g1 => by
  match w, f1, g1 with
  | .d x, f1, g1 => exact ⟨_, tru_RT h1.sub (.inl f1) g1.1, q _ G1 H1 p1 h1 e1 g1.2⟩
  | .o xs, f1, g1 =>
    obtain ⟨p, us, rfl, a2, a3, _⟩ := f1
    exact ⟨_, tru_RT h1.sub (.inr ⟨p, us, xs, rfl, rfl, a2, a3⟩) g1.1, q _ G1 H1 p1 h1 e1 g1.2⟩
end
end
end PD

/-! PD2: a def's promise where no container is being shown (guards empty), its rule, its call, a law's end -/
namespace PD
open PySem PySem.Spec PyProof.Rows L2 Evl

/-- a promise of a def, for callers with nothing guarded -/
structure FG (P : Program) (w : World) (K : PySem.W.Frag) (mg : Str → Option Value) (base : Heap) (k : Nat) (f : Addr) (fd : FuncData) (ps : List Str) (sp : Sp) : Prop where
  many : ∀ vs H Q E, sp vs H Q E → vs.length = ps.length
  goes : ∀ (B : Around) (fr : List Env) (s : Shared) (H : Hp) (ar : Args) (us : List Value) (vs : List V) (Q : VK) (E : XK), B.guards = some [] → Room k B → Env0 P w K mg base B fr s H →
    BindsTo s fd ar (ps.zip us) → Vals vs us → sp vs H Q E → codeAny (model P w) B (.call (.ref f) ar) (CR CX0 fr P w H s Q E) s
section
variable {P : Program} {w : World} {K : PySem.W.Frag} {mg : Str → Option Value} {base : Heap} {k : Nat} {f : Addr} {fd : FuncData} {ps : List Str} {sp : Sp}
theorem FG.mono {j : Nat} (F : FG P w K mg base j f fd ps sp) (h : j ≤ k) : FG P w K mg base k f fd ps sp :=
  ⟨F.many, fun B fr s H ar us vs Q E hg hr => F.goes B fr s H ar us vs Q E hg (hr.mono h)⟩
/-- a def of the text by its body -/
theorem fg_of {x qual : Str} {st : Stmt} {N : List Str} (F : Fun K x qual st f fd) (S : FnScope N ps (defScope st)) (len : ∀ vs H Q E, sp vs H Q E → vs.length = ps.length)
    (body : ∀ (cdv : Value) (B : Around) (fr : List Env) (s : Shared) (H : Hp) (vs : List V) (Q : VK) (E : XK), B.guards = some [] → Room k (B.deeper (envOfC qual (defScope st) s.heap.objs.size f cdv)) → sp vs H Q E →
      ∃ t, PSs (cxOf CX0 P w K mg base N qual (defScope st) f cdv B fr s H E).nox (defBody st) t ∧ t { nx := fun _ H' => Q .non H', rt := Q } (start N vs) H) : FG P w K mg base (k + 1) f fd ps sp := by
  obtain ⟨oc, od, kV, doc, pm, an, cdv, ct, osl, rfl, lk, hcd⟩ := F.ex
  constructor
  · exact len
  intro B fr s H ar us vs Q E hg hr e0 hb r hsp
  have kin := e0.mod.kin.keeps fun b o e => (e0.bs b o e).1
  have nolim := e0.mod.nolimit.keeps fun b o e => (e0.bs b o e).1
  have kinds : ∀ y ∈ ps.zip us, (defScope st).names.lookup y.1 = some .local ∨ ((defScope st).names.lookup y.1 = some .cell ∧
      ((cellsFrom (s.heap.objs.size + 1) (defScope st).names []).lookup y.1).isSome = true) := by
    rintro ⟨n, v⟩ hy
    cases S.par n (List.of_mem_zip hy).1 with
    | inl q => exact Or.inl q
    | inr q => exact Or.inr ⟨q, PySem.W.cellsFrom_some _ _ _ (Or.inl q)⟩
  apply codeAny_call_function hr.depth (kin _ _ lk) rfl S.co S.gen rfl (PySem.W.codeRec_of kin hcd)
  refine hb _ _ _ _ (wpAny_newFunctionEnv_cells S.kind kinds ?_)
  intro env he s1 x
  subst he
  refine ⟨nolim.keeps x.toInCall.keep, codeAny_func ?_⟩
  obtain ⟨t, ht, hq⟩ := body cdv B fr s H vs Q E hg (hr.deeper _) hsp
  have I0 := inv_start (CX := CX0) (P := P) (E := E) S hr.hd e0 (len _ _ _ _ hsp) r x
  refine wpAny_mono (ht.nox.run [] s1 (start N vs) H _ I0 hq) ?_ (fun _ _ q => q)
  intro fl s2 hs
  match fl, hs with
  | .ret u, ⟨v, _, H2, J, rv, q⟩ => exact ⟨v, H2, J.os, J.bare, J.base, J.hok, rv, q⟩
  | .next, ⟨_, H2, J, q⟩ => exact ⟨V.non, H2, J.os, J.bare, J.base, J.hok, rfl, q⟩
  | .brk, ⟨_, _, _, q⟩ => exact q.elim
  | .cont, ⟨_, _, _, q⟩ => exact q.elim
end
section
variable {X : Cx} {k : Nat} {f : Addr} {fd : FuncData} {ps : List Str} {sp : Sp} {E : XK} {x : Str} {p pos : Pos} {e : Expr} {es : List Expr} {t : TA}
theorem fg_run {pins : List (Addr × Obj)} {σ : L2.St} {H : Hp} {s : Shared} {Q : VK} {us : List Value} {vs : List V} (hG : X.A.guards = some []) (F : FG X.prog X.w X.K X.mg X.base k f fd ps sp) (hr : Room k X.A) (hb : Binds X.K fd ps [])
    (I : Inv X pins σ H s) (r : Vals vs us) (h : sp vs H Q E) : wpAny (model X.prog X.w) X.A (call (.ref f) us) (EP X pins σ Q) X.xe s := by
  have n : (us ++ []).length = ps.length := by
    have n1 := F.many _ _ _ _ h
    rw [List.append_nil, ← r.length]
    exact n1
  have b := hb s us I.kIn n
  rw [List.append_nil] at b
  apply wpAny_call
  refine codeAny_mono (F.goes X.A X.stack s H ⟨us, []⟩ us vs Q E hG hr I.env0 b r h) ?_
  intro res s2 hq
  match res, hq with
  | .ok (.ret u), hq => exact I.after hq
  | .ok .next, hq => exact hq.elim
  | .ok .brk, hq => exact hq.elim
  | .ok .cont, hq => exact hq.elim
  | .error er, hq => exact hq.elim
/-- f(e, ..) -/
theorem pe_callG (hG : X.A.guards = some []) (F : FG X.prog X.w X.K X.mg X.base k f fd ps sp) (hr : Room k X.A) (hg : Gl X x) (hm : X.mg x = some (.ref f)) (hk : PySem.W.keepIn X.K (.ref f) = true) (hb : Binds X.K fd ps []) (ha : PA X (e :: es) t)
    (hdb : (x == ("__debug__" : Str)) = false := by decide) (he : starEach (e :: es) X.env = (false, eval e X.env) :: starEach es X.env := by rfl)
    (hpl : (backTo pos (starEach es X.env)).any (·.1) = false := by rfl) : PE X (.Call (.Name x p) (e :: es) [] pos) (tCall sp [] E t) := by
  constructor
  intro pins s σ H Q I h
  apply wpAny_Call_Name_kw
  refine ld_glob I hg hm ?_ hdb
  refine PySem.W.callWith_K (h₀ := X.base) I.ok.mod.kin hk ?_ he hpl
  refine thn (ha.run pos pins s σ H _ I h) ?_
  rintro us s1 ⟨vs, H1, I1, r, q⟩
  rw [List.append_nil] at q
  exact ⟨I1.kIn, fg_run hG F hr hb I1 r q⟩
end

/-! ### a law's end -/
/-- the script alone is known, as it lies -/
def scrH (a : Addr) (o : Obj) (xs : List V) : Hp := fun b => if b = a then some (.frz o (.lst xs)) else none
theorem scrH_at {a : Addr} {o : Obj} {xs : List V} : scrH a o xs a = some (.frz o (.lst xs)) := if_pos rfl
theorem scrH_some {a b : Addr} {o : Obj} {xs : List V} {u : HO} (h : scrH a o xs b = some u) : b = a ∧ u = .frz o (.lst xs) := by
  unfold scrH at h
  by_cases e : b = a
  · rw [if_pos e] at h
    exact ⟨e, (Option.some.inj h).symm⟩
  · rw [if_neg e] at h
    cases h
section
variable {P : Program} {w : World} {K : PySem.W.Frag} {mg mb : Str → Option Value} {k : Nat} {fa a : Addr} {fd : FuncData} {x : Str} {sp : Sp} {s₁ : Shared} {vs : List Value} {ns : List Int}
theorem fg_law1 (kin : K.In s₁.heap) (g1 : s₁.heap.Ns mainGlobals mg) (g2 : s₁.heap.Ns builtinsNs mb) (g3 : ∀ y : Str, y ≠ "__name__" → mb y = bootBuiltins y) (g4 : s₁.heap.NoLimit) (g5 : s₁.gens = #[])
    (at_ : s₁.heap.get? a = some { cls := .type "list", data := .seq vs.toArray }) (hr : Room k callerA)
    (F : ∀ base : Heap, K.In base → base.Ns mainGlobals mg → FG P w K mg base k fa fd [x] sp) (bind : ∀ (s : Shared) (u : Value), BindsTo s fd ⟨[u], []⟩ [(x, u)])
    (H : Hp) (only : ∀ b u, H b = some u → b = a ∧ ∃ xs, u = .frz { cls := .type "list", data := .seq vs.toArray } (.lst xs)) (ok : HOk P w H s₁.heap) (out : ∀ u, H a = some u → K.lookup a = none)
    (want : sp [.ref a] H (fun v _ => v = .bl true) E0) :
    codeAny (model P w) callerA (.call (.ref fa) ⟨[.ref a], []⟩) (fun r s' => r = .ok (.ret (.bool true)) ∧ OldK s₁.heap s'.heap ∧ s'.os = s₁.os ∧ AllBare s'.gens) s₁ := by
  have free_of : ∀ {b : Addr} {o : Obj}, s₁.heap.get? b = some o → (b ≠ a ∨ ∃ es ep, o.data = .dict es ep) → H b = none := by
    intro b o e d
    cases q : H b with
    | none => rfl
    | some u =>
      have z := (only b u q).1
      rcases d with d | ⟨es, ep, d⟩
      · exact absurd z d
      · rw [z, at_] at e
        cases e
        cases (show Data.seq vs.toArray _ = Data.dict es ep from d)
  have nsT : ∀ {b : Addr} {m : Str → Option Value}, s₁.heap.Ns b m → (hidT s₁.heap H).Ns b m := by
    rintro b m ⟨o, es, ep, e, d, r⟩
    exact ⟨o, es, ep, hidT_get e (free_of e (.inr ⟨es, ep, d⟩)), d, r⟩
  have kinT : K.In (hidT s₁.heap H) := by
    intro b o e
    refine hidT_get (kin b o e) ?_
    cases q : H b with
    | none => rfl
    | some u =>
      have z := (only b u q).1
      subst z
      rw [out u q] at e
      cases e
  obtain ⟨mc, l1, l2⟩ := g4
  have md : Mod K mg (hidT s₁.heap H) := { kin := kinT, glob := nsT g1, blt := ⟨mb, nsT g2, g3⟩, nolimit := ⟨mc, nsT l1, l2⟩ }
  have en : Env0 P w K mg (hidT s₁.heap H) callerA [] s₁ H :=
    { frames := rfl, mod := md, bs := fun b o e => of_hidT e, bsz := Nat.le_of_eq (hidT_size _ _), funs := trivial, frf := fun b hb => absurd (show b ∈ ([] : List Addr) from hb) (by simp), hok := ok, bare := .of_eq g5 }
  refine codeAny_mono ((F _ kinT (nsT g1)).goes callerA [] s₁ H ⟨[.ref a], []⟩ [.ref a] [.ref a] _ _ rfl hr en (bind s₁ (.ref a)) (.cons rfl .nil) want) ?_
  intro r s2 q
  match r, q with
  | .ok (.ret u), ⟨v, H2, c1, c2, c3, c4, c5, c6⟩ =>
    have c6' : v = .bl true := c6
    subst c6'
    have c5' : u = Value.bool true := c5
    subst c5'
    refine ⟨rfl, OldK.of_keep ?_, c1, c2⟩
    intro b o e
    cases z : H b with
    | none => exact c3.keep b o e z (fun y => absurd (show b ∈ ([] : List Addr) from y) (by simp)) (by simp)
    | some u =>
      obtain ⟨z1, xs, z2⟩ := only b u z
      subst z2
      have f1 := (ok b _ z).1
      have f2 := (c4 b _ (c3.frzs b _ _ z)).1
      rw [e] at f1
      cases f1
      exact f2
  | .ok .next, q => exact q.elim
  | .ok .brk, q => exact q.elim
  | .ok .cont, q => exact q.elim
  | .error er, q => exact q.elim
theorem fg_law (kin : K.In s₁.heap) (g1 : s₁.heap.Ns mainGlobals mg) (g2 : s₁.heap.Ns builtinsNs mb) (g3 : ∀ y : Str, y ≠ "__name__" → mb y = bootBuiltins y) (g4 : s₁.heap.NoLimit) (g5 : s₁.gens = #[])
    (at_ : s₁.heap.get? a = some { cls := .type "list", data := .seq vs.toArray }) (hi : IntsAre vs ns) (hl : ns.length ≤ sizeLine) (hr : Room k callerA)
    (F : ∀ base : Heap, K.In base → base.Ns mainGlobals mg → FG P w K mg base k fa fd [x] sp) (bind : ∀ (s : Shared) (u : Value), BindsTo s fd ⟨[u], []⟩ [(x, u)])
    (want : ∀ H : Hp, (∀ b u, H b = some u → ∃ o xs, u = .frz o (.lst xs)) → SqL K H a (ns.map V.int) → sp [.ref a] H (fun v _ => v = .bl true) E0) :
    codeAny (model P w) callerA (.call (.ref fa) ⟨[.ref a], []⟩) (fun r s' => r = .ok (.ret (.bool true)) ∧ OldK s₁.heap s'.heap ∧ s'.os = s₁.os ∧ AllBare s'.gens) s₁ := by
  have rv := vals_ints hi
  have szs : vs.toArray.size ≤ sizeLine := by
    rw [List.size_toArray, hi.length]
    exact hl
  cases hk : K.lookup a with
  | some o =>
    have e := kin a o hk
    rw [at_] at e
    cases e
    refine fg_law1 kin g1 g2 g3 g4 g5 at_ hr F bind (fun _ => none) (fun b u z => by cases z) (fun b u z => by cases (show (none : Option HO) = some u from z)) (fun u z => by cases z) ?_
    exact want _ (fun b u z => by cases z) (.inr ⟨_, vs.toArray, _, hk, rfl, rfl, rfl, szs, by simpa using rv⟩)
  | none =>
    refine fg_law1 kin g1 g2 g3 g4 g5 at_ hr F bind (scrH a { cls := .type "list", data := .seq vs.toArray } (ns.map V.int)) (fun b u z => ⟨(scrH_some z).1, _, (scrH_some z).2⟩) ?_ (fun u z => hk) ?_
    · intro b u z
      obtain ⟨z1, z2⟩ := scrH_some z
      subst z1 z2
      exact ⟨at_, by rw [List.length_map]; exact hl, vs, _, rv, at_⟩
    · exact want _ (fun b u z => ⟨_, _, (scrH_some z).2⟩) (.inl (.inr ⟨_, scrH_at⟩))
end
theorem fg_end {l : PySem.W.OpenLaw} {n k : Nat} {q : Program} {loose : List Str} {XP : (Str → Option Value) → Heap → Prop} {YP : World → Heap → Prop} {d : DefRec} {K : Params → PySem.W.Frag} {sp : World → Sp} {x : Str} (many : l.most = some n)
    (small : n ≤ sizeLine) (nodef : d.params.defaults = []) (hr : Room k callerA) (lay : ∀ (w : World) (h : Heap), YP w h → (K w.params).In h)
    (F : ∀ (w : World) (mg : Str → Option Value) (fa : Addr) (h : Heap), (K w.params).In h → h.Ns mainGlobals mg → mg d.name = some (.ref fa) → ∃ fd : FuncData,
      (∀ (s : Shared) (u : Value), BindsTo s fd ⟨[u], []⟩ [(x, u)]) ∧ ∀ base : Heap, (K w.params).In base → base.Ns mainGlobals mg → FG l.prog w (K w.params) mg base k fa fd [x] (sp w))
    (want : ∀ (w : World) (H : Hp) (a : Addr) (ns : List Int), ns.length ≤ n → (∀ b u, H b = some u → ∃ o xs, u = .frz o (.lst xs)) → SqL (K w.params) H a (ns.map V.int) → sp w [.ref a] H (fun v _ => v = .bl true) E0) :
    PySem.W.WalkO q loose XP YP l.row.toRowW d [] (fun f vs => PySem.call f vs) := by
  refine Att.attach_call many nodef ?_
  intro w s₀ s₁ mg mb fa o pm cd doc a vs ns G Y ho hd hcd hmg hobj hints hlen hg
  obtain ⟨fd, hb, hF⟩ := F w mg fa _ (lay w _ Y) G.T.g hmg
  exact fg_law (lay w _ Y) G.T.g G.T.b G.T.builtins G.T.nolimit hg hobj hints (Nat.le_trans hlen small) hr hF hb fun H hO hS => want w H a ns hlen hO hS
end PD

/-! PD3: promises over data, calls, statements, loops, comprehensions -/
namespace PD
open PySem PySem.Spec PyProof.Rows L2 Evl

/-! ### promises -/
/-- a def that changes nothing -/
def spP (F : List D → (D → Prop) → Prop) : Sp := fun vs H Q _ => ∃ G ds, Ex G H ∧ RA G vs ds ∧ F ds fun d => ∀ v G' H', Ex H H' → Ex G' H' → Ex G G' → (∀ a o, H a = some o → G a = none → G' a = none) → R G' v d → Q v H'
/-- the same, a new list -/
def spN (F : List D → (List D → Prop) → Prop) : Sp := fun vs H Q _ => ∃ G ds, Ex G H ∧ RA G vs ds ∧ F ds fun xs => ∀ p us G' H', Ex H H' → Ex G' H' → Ex G G' → (∀ a o, H a = some o → G a = none → G' a = none) → H p = none → G' p = none →
  H' p = some (.lst us) → RA G' us xs → Q (.ref p) H'
/-- a def that changes its pool, its first argument -/
def spO (F : List D → List D → (D → List D → Prop) → Prop) : Sp := fun vs H Q _ => ∃ G p vs' us pl ds, vs = .ref p :: vs' ∧ Ex G H ∧ G p = none ∧ H p = some (.lst us) ∧ RA G us pl ∧ RA G vs' ds ∧ F pl ds fun d pl' =>
  ∀ v G' H' us', (∀ a o, a ≠ p → H a = some o → H' a = some o) → Ex G' H' → Ex G G' → (∀ a o, H a = some o → G a = none → G' a = none) → H' p = some (.lst us') → RA G' us' pl' → R G' v d → Q v H'

section
variable {c : Cn} {K : PySem.W.Frag} {ds : DS} {pl : List D} {Φ : W → List D → Prop} {ta tb te : TE} {tr : TA} {G H : Hp} {σ : L2.St}
/-- behind what changed nothing that stood -/
theorem HS.ext (h : HS c G σ H ds pl) {G' H' : Hp} (e : Ex H H') (s : Ex G' H') (g : Ex G G') (n : ∀ a o, H a = some o → G a = none → G' a = none) : HS c G' σ H' ds pl := by
  refine ⟨s, fun a q => ?_, fun a q => ?_, fun a o q => n a o (h.pin a o q) (h.gn a o q), fun a o q1 q2 => e _ _ (h.keep a o q1 q2), fun p z => ?_, fun a o q => e _ _ (h.pin a o q), fun a q => ?_, h.len, fun i w q => ?_, h.own⟩
  · obtain ⟨o, z⟩ := h.hid a q
    exact n a o z (h.gh a q)
  · obtain ⟨_, _, vs, z, _⟩ := h.pl a q
    exact n a _ z (h.gq a q)
  · obtain ⟨b1, b2, vs, b3, b4⟩ := h.pl p z
    exact ⟨b1, b2, vs, e _ _ b3, b4.up g⟩
  · obtain ⟨o, z⟩ := h.hid a q
    exact ⟨o, e _ _ z⟩
  · obtain ⟨v, e1, e2⟩ := h.slots i w q
    exact ⟨v, e1, e2.up g fun q vs a1 a2 a3 a4 a5 a6 => ⟨e _ _ a6, n _ _ a6 a1⟩⟩
theorem we_call {F : List D → (D → Prop) → Prop} {E : XK} (ha : WA c tr ds pl fun xs p1 => F xs fun d => Φ (.d d) p1) (mono : ∀ xs k k', F xs k → (∀ d, k d → k' d) → F xs k') : WE c (tCall (spP F) [] E tr) ds pl Φ := fun G σ H hs Q q =>
  ha G σ H hs _ fun vs G1 H1 xs p1 h1 e1 f1 g1 => by
    rw [List.append_nil]
    exact ⟨G1, xs, h1.sub, f1, mono xs _ _ g1 fun d hd v G' H' a1 a2 a3 a4 a5 => q v G' H' (.d d) p1 (h1.ext a1 a2 a3 a4) (e1.trans a3) a5 hd⟩
theorem we_callN {F : List D → (List D → Prop) → Prop} {E : XK} (ha : WA c tr ds pl fun xs p1 => F xs fun d => Φ (.d (.list d)) p1) (mono : ∀ xs k k', F xs k → (∀ d, k d → k' d) → F xs k') : WE c (tCall (spN F) [] E tr) ds pl Φ := fun G σ H hs Q q =>
  ha G σ H hs _ fun vs G1 H1 xs p1 h1 e1 f1 g1 => by
    rw [List.append_nil]
    refine ⟨G1, xs, h1.sub, f1, mono xs _ _ g1 fun d hd p us G' H' a1 a2 a3 a4 a5 a6 a7 a8 => ?_⟩
    have s2 : Ex G' (upd G' p (.lst us)) := Ex.new a6
    refine q (.ref p) (upd G' p (.lst us)) H' (.d (.list d)) p1 (h1.ext a1 (fun a o z => ?_) (a3.trans s2) fun a o z1 z2 => ?_) (e1.trans (a3.trans s2)) (.lst upd_same (a8.up s2)) hd
    · by_cases z' : a = p
      · subst z'; rw [upd_same] at z; cases z; exact a7
      · rw [upd_ne z'] at z; exact a2 _ _ z
    · rw [upd_ne (fun z' : a = p => by rw [z', a5] at z1; cases z1)]
      exact a4 _ _ z1 z2
theorem we_callO {F : List D → List D → (D → List D → Prop) → Prop} {E : XK} {i : Nat} {p : Addr} (hi : ds[i]? = some (some (.v (.ref p)))) (hp : c.pool = some p)
    (ha : WA c tr ds pl fun xs p1 => F p1 xs fun d p2 => Φ (.d d) p2) (mono : ∀ xs ys k k', F xs ys k → (∀ d p, k d p → k' d p) → F xs ys k') : WE c (tCall (spO F) [] E (tCons (tVar i) tr)) ds pl Φ := fun G σ H hs Q q => by
  obtain ⟨v, e1, e2⟩ := hs.slots i _ hi
  have e2' : v = .ref p := e2
  subst e2'
  refine ⟨_, e1, ha G σ H hs _ fun vs G1 H1 xs p1 h1 e1 f1 g1 => ?_⟩
  show spO F ((V.ref p :: vs) ++ []) H1 Q E
  rw [List.append_nil]
  obtain ⟨b1, b2, us, b3, b4⟩ := h1.pl p hp
  refine ⟨G1, p, vs, us, p1, xs, rfl, h1.sub, h1.gq p hp, b3, b4, f1, mono _ _ _ _ g1 fun d p2 hd v G' H' us' a1 a2 a3 a4 a5 a6 a7 => ?_⟩
  refine q v G' H' (.d d) p2 ?_ (e1.trans a3) a7 hd
  refine ⟨a2, fun a z => ?_, fun a z => ?_, fun a o z => a4 _ _ (h1.pin a o z) (h1.gn a o z), fun a o q1 q2 => a1 _ _ (fun z => q1 (z ▸ hp)) (h1.keep a o q1 q2), fun p' z => ?_, fun a o z => a1 _ _ (fun z' => by rw [z', b2] at z; cases z) (h1.pin a o z), fun a z => ?_, h1.len, fun i w z => ?_, h1.own⟩
  · obtain ⟨o, z'⟩ := h1.hid a z
    exact a4 _ _ z' (h1.gh a z)
  · obtain ⟨_, _, us0, z', _⟩ := h1.pl a z
    exact a4 _ _ z' (h1.gq a z)
  · have e : p' = p := by rw [hp] at z; exact (Option.some.inj z).symm
    subst e
    exact ⟨b1, b2, us', a5, a6⟩
  · obtain ⟨o, z'⟩ := h1.hid a z
    exact ⟨o, a1 _ _ (fun e => b1 (e ▸ z)) z'⟩
  · obtain ⟨v, c1, c2⟩ := h1.slots i w z
    exact ⟨v, c1, c2.up a3 fun q vs d1 d2 d3 d4 d5 d6 => ⟨a1 _ _ (fun e => d4 (e ▸ hp)) d6, a4 _ _ d6 d1⟩⟩
/-- the pool read by place -/
theorem we_ixP {i : Nat} {p : Addr} (hi : ds[i]? = some (some (.v (.ref p)))) (hp : c.pool = some p) (hb : WE c tb ds pl (isI fun k p1 => ∃ e, atI p1 k = some e ∧ Φ (.d e) p1)) : WE c (tOp (rIx K) (tVar i) tb) ds pl Φ := fun G σ H hs Q q => by
  obtain ⟨v, e1, e2⟩ := hs.slots i _ hi
  have e2' : v = .ref p := e2
  subst e2'
  refine ⟨_, e1, hb G σ H hs _ fun u G1 H1 w p1 h1 e1 f1 g1 => ?_⟩
  match w, f1, g1 with
  | .d (.int k), f1, ⟨e, g1, g2⟩ =>
    cases f1
    obtain ⟨b1, b2, us, b3, b4⟩ := h1.pl p hp
    obtain ⟨z, z1, z2⟩ := atI_RA b4 g1
    exact .inl ⟨p, us, k, z, rfl, rfl, SqL.of b3, z1, q z G1 H1 (.d e) p1 h1 e1 z2 g2⟩

/-! ### statements -/
structure EE where
  nx : DS → List D → Prop
  rt : W → List D → Prop
  bk : DS → List D → Prop
  ct : DS → List D → Prop
structure Fits (c : Cn) (G : Hp) (D' : Ends) (E : EE) : Prop where
  nx : ∀ G' σ' H' ds' pl', HS c G' σ' H' ds' pl' → Ex G G' → E.nx ds' pl' → D'.nx σ' H'
  rt : ∀ v G' σ' H' ds' w pl', HS c G' σ' H' ds' pl' → Ex G G' → VW G' H' c v w → E.rt w pl' → D'.rt v H'
  bk : ∀ G' σ' H' ds' pl', HS c G' σ' H' ds' pl' → Ex G G' → E.bk ds' pl' → D'.bk σ' H'
  ct : ∀ G' σ' H' ds' pl', HS c G' σ' H' ds' pl' → Ex G G' → E.ct ds' pl' → D'.ct σ' H'
theorem Fits.up {D' : Ends} {E : EE} {G' : Hp} (f : Fits c G D' E) (e : Ex G G') : Fits c G' D' E :=
  ⟨fun a b d x y h e' => f.nx a b d x y h (e.trans e'), fun v a b d x w y h e' => f.rt v a b d x w y h (e.trans e'), fun a b d x y h e' => f.bk a b d x y h (e.trans e'), fun a b d x y h e' => f.ct a b d x y h (e.trans e')⟩
def WS (c : Cn) (ts : TS) (ds : DS) (pl : List D) (E : EE) : Prop := ∀ G σ H, HS c G σ H ds pl → ∀ D' : Ends, Fits c G D' E → ts D' σ H
variable {t u : TS} {E : EE}
theorem ws_next (h : E.nx ds pl) : WS c tNext ds pl E := fun G σ H hs D' f => f.nx G σ H ds pl hs (Ex.refl _) h
theorem ws_brk (h : E.bk ds pl) : WS c tBreak ds pl E := fun G σ H hs D' f => f.bk G σ H ds pl hs (Ex.refl _) h
theorem ws_cont (h : E.ct ds pl) : WS c tCont ds pl E := fun G σ H hs D' f => f.ct G σ H ds pl hs (Ex.refl _) h
theorem ws_seq (h : WS c t ds pl { E with nx := fun ds' pl' => WS c u ds' pl' E }) : WS c (tSeq t u) ds pl E := fun G σ H hs D' f =>
  h G σ H hs { D' with nx := u D' } ⟨fun G' σ' H' ds' pl' h' e w => w G' σ' H' h' D' (f.up e), f.rt, f.bk, f.ct⟩
theorem ws_mono {E' : EE} (h : WS c t ds pl E') (h1 : ∀ ds' pl', E'.nx ds' pl' → E.nx ds' pl') (h2 : ∀ w pl', E'.rt w pl' → E.rt w pl') (h3 : ∀ ds' pl', E'.bk ds' pl' → E.bk ds' pl') (h4 : ∀ ds' pl', E'.ct ds' pl' → E.ct ds' pl') : WS c t ds pl E := fun G σ H hs D' f =>
  h G σ H hs D' ⟨fun a b d x y h e w => f.nx a b d x y h e (h1 _ _ w), fun v a b d x w y h e q z => f.rt v a b d x w y h e q (h2 _ _ z), fun a b d x y h e w => f.bk a b d x y h e (h3 _ _ w), fun a b d x y h e w => f.ct a b d x y h e (h4 _ _ w)⟩
theorem ws_ret (h : WE c te ds pl E.rt) : WS c (tRet te) ds pl E := fun G σ H hs D' f => h G σ H hs D'.rt fun v G' H' w pl' h' e q z => f.rt v G' σ H' ds w pl' h' e q z
theorem ws_drop (h : WE c te ds pl fun _ p1 => E.nx ds p1) : WS c (tDrop te) ds pl E := fun G σ H hs D' f => h G σ H hs _ fun v G' H' w pl' h' e q z => f.nx G' σ H' ds pl' h' e z
theorem ws_if {tt : TT} (h : WT c tt ds pl fun b p1 => if b = true then WS c t ds p1 E else WS c u ds p1 E) : WS c (tIfS tt t u) ds pl E := fun G σ H hs D' f => h G σ H hs _ fun b G1 H1 p1 h1 e1 g1 => by
  cases b with
  | true => exact (show WS c t ds p1 E from g1) G1 σ H1 h1 D' (f.up e1)
  | false => exact (show WS c u ds p1 E from g1) G1 σ H1 h1 D' (f.up e1)
theorem HS.set (h : HS c G σ H ds pl) {i : Nat} {v : V} {w : W} (hv : VW G H c v w) (hn : ∀ xs, w = .o xs → ∀ (j : Nat) (ys : List D), ds[j]? = some (some (W.o ys)) → σ[j]? ≠ some (some v)) : HS c G (σ.set i (some v)) H (ds.set i (some w)) pl := by
  refine ⟨h.sub, h.gh, h.gq, h.gn, h.keep, h.pl, h.pin, h.hid, by rw [List.length_set, List.length_set, h.len], fun j w' q => ?_, fun j k p xs ys q1 q2 q3 q4 => ?_⟩
  · by_cases e : i = j
    · subst e
      have hj : i < ds.length := by
        have := (List.getElem?_eq_some_iff.mp q).1
        rw [List.length_set] at this
        exact this
      rw [List.getElem?_set_self hj] at q
      cases q
      exact ⟨v, List.getElem?_set_self (by rw [h.len]; exact hj), hv⟩
    · rw [List.getElem?_set_ne e] at q
      obtain ⟨v', e1, e2⟩ := h.slots j w' q
      exact ⟨v', by rw [List.getElem?_set_ne e]; exact e1, e2⟩
  · have lt : ∀ {m : Nat} {z : Option W}, (ds.set i (some w))[m]? = some z → m < ds.length := fun q => by
      have := (List.getElem?_eq_some_iff.mp q).1
      rw [List.length_set] at this
      exact this
    by_cases e1 : i = j
    · by_cases e2 : i = k
      · exact e1.symm.trans e2
      · subst e1
        rw [List.getElem?_set_self (lt q1)] at q1
        rw [List.getElem?_set_self (by rw [h.len]; exact lt q2 |> fun _ => (by
          have := (List.getElem?_eq_some_iff.mp q3).1
          rw [List.length_set, h.len] at this
          exact this))] at q3
        rw [List.getElem?_set_ne e2] at q2 q4
        cases q1
        cases q3
        exact absurd q4 (hn xs rfl k ys q2)
    · by_cases e2 : i = k
      · subst e2
        rw [List.getElem?_set_self (lt q2)] at q2
        rw [List.getElem?_set_self (by
          have := (List.getElem?_eq_some_iff.mp q4).1
          rw [List.length_set] at this
          exact this)] at q4
        rw [List.getElem?_set_ne e1] at q1 q3
        cases q2
        cases q4
        exact absurd q3 (hn ys rfl j xs q1)
      · rw [List.getElem?_set_ne e1] at q1 q3
        rw [List.getElem?_set_ne e2] at q2 q4
        exact h.own j k p xs ys q1 q2 q3 q4
abbrev notO (k : W → List D → Prop) : W → List D → Prop := fun w pl => match w with
  | .o _ => False
  | w => k w pl
theorem ws_set {i : Nat} (h : WE c te ds pl (isD fun x p1 => E.nx (ds.set i (some (.d x))) p1)) : WS c (tAsg te (gName i)) ds pl E := fun G σ H hs D' f => h G σ H hs _ fun v G' H' w pl' h' e q z => by
  match w, q, z with
  | .d x, q, z => exact f.nx G' _ H' _ pl' (h'.set q fun xs z => by cases z) e z
/-- a new list of one's own -/
theorem ws_setO {i : Nat} (h : WA c tr ds pl fun xs p1 => xs.length ≤ sizeLine ∧ E.nx (ds.set i (some (.o xs))) p1) : WS c (tAsg (tLst tr) (gName i)) ds pl E := fun G σ H hs D' f => h G σ H hs _ fun vs G1 H1 xs p1 h1 e1 f1 g1 => ⟨by rw [f1.len]; exact g1.1, fun p hp => by
    obtain ⟨n1, n2, n3, n4, n5⟩ := h1.none_of hp
    refine f.nx G1 _ _ _ p1 ((h1.newH hp).set (w := .o xs) ⟨p, vs, rfl, upd_same, f1, n1, n5, n3, n4, n2⟩ fun xs _ j ys q1 q2 => ?_) e1 g1.2
    obtain ⟨v, e2, p', us, rfl, b1, _⟩ := h1.slots j _ q1
    rw [e2] at q2
    have e3 : p' = p := V.ref.inj (Option.some.inj (Option.some.inj q2))
    rw [e3, hp] at b1
    cases b1⟩
theorem ws_setN {F : List D → (List D → Prop) → Prop} {Ek : XK} {i : Nat} (ha : WA c tr ds pl fun xs p1 => F xs fun d => E.nx (ds.set i (some (.o d))) p1) (mono : ∀ xs k k', F xs k → (∀ d, k d → k' d) → F xs k') :
    WS c (tAsg (tCall (spN F) [] Ek tr) (gName i)) ds pl E := fun G σ H hs D' f =>
  ha G σ H hs _ fun vs G1 H1 xs p1 h1 e1 f1 g1 => by
    rw [List.append_nil]
    refine ⟨G1, xs, h1.sub, f1, mono xs _ _ g1 fun d hd p us G' H' a1 a2 a3 a4 a5 a6 a7 a8 => ?_⟩
    obtain ⟨n1, n2, n3, n4, n5⟩ := h1.none_of a5
    refine f.nx G' _ H' _ p1 ((h1.ext a1 a2 a3 a4).set (w := .o d) ⟨p, us, rfl, a7, a8, a6, n5, n3, n4, n2⟩ fun xs _ j ys q1 q2 => ?_) (e1.trans a3) hd
    obtain ⟨v, e2, p', us', rfl, b1, _⟩ := h1.slots j _ q1
    rw [e2] at q2
    have e3 : p' = p := V.ref.inj (Option.some.inj (Option.some.inj q2))
    rw [e3, a5] at b1
    cases b1
/-- an owned list changed -/
theorem HS.chg (h : HS c G σ H ds pl) {i : Nat} {xs xs' : List D} {p : Addr} {us : List V} (hi : ds[i]? = some (some (.o xs))) (hs : σ[i]? = some (some (.ref p))) (hr : RA G us xs') : HS c G σ (upd H p (.lst us)) (ds.set i (some (.o xs'))) pl := by
  obtain ⟨v, e1, p', vs, rfl, b1, b2, b3, b4, b5, b6, b7⟩ := h.slots i _ hi
  have ep : p' = p := by rw [hs] at e1; exact (V.ref.inj (Option.some.inj (Option.some.inj e1))).symm
  subst ep
  have ne : ∀ a, a ≠ p' → (upd H p' (.lst us)) a = H a := fun a q => upd_ne q
  have hlt : i < ds.length := (List.getElem?_eq_some_iff.mp hi).1
  refine ⟨fun a o q => ?_, h.gh, h.gq, h.gn, fun a o q1 q2 => ?_, fun q z => ?_, fun a o q => ?_, fun a q => ?_, by rw [List.length_set]; exact h.len, fun j w q => ?_, fun j k p xs ys q1 q2 q3 q4 => ?_⟩
  · rw [ne a (fun e => by rw [e, b3] at q; cases q)]; exact h.sub a o q
  · rw [ne a (fun e => by rw [e, b4] at q2; cases q2)]; exact h.keep a o q1 q2
  · obtain ⟨c1, c2, vs', c3, c4⟩ := h.pl q z
    exact ⟨c1, c2, vs', by rw [ne q (fun e => b6 (e ▸ z))]; exact c3, c4⟩
  · rw [ne a (fun e => by rw [e, b5] at q; cases q)]; exact h.pin a o q
  · rw [ne a (fun e => b7 (e ▸ q))]; exact h.hid a q
  · by_cases e : i = j
    · subst e
      rw [List.getElem?_set_self hlt] at q
      cases q
      exact ⟨_, hs, p', us, rfl, upd_same, hr, b3, b4, b5, b6, b7⟩
    · rw [List.getElem?_set_ne e] at q
      obtain ⟨v, e1, e2⟩ := h.slots j w q
      refine ⟨v, e1, ?_⟩
      cases w with
      | d x => exact e2
      | v x => exact e2
      | o ys =>
        obtain ⟨q', us', rfl, d1, d2, d3⟩ := e2
        refine ⟨q', us', rfl, ?_, d2, d3⟩
        rw [ne q' (fun z => e (h.own i j p' xs ys hi q hs (by rw [z] at e1; exact e1)))]
        exact d1
  · have key : ∀ {m : Nat} {zs : List D}, (ds.set i (some (.o xs')))[m]? = some (some (.o zs)) → ∃ zs', ds[m]? = some (some (.o zs')) := fun {m zs} q => by
      by_cases e : i = m
      · subst e; exact ⟨_, hi⟩
      · rw [List.getElem?_set_ne e] at q; exact ⟨zs, q⟩
    obtain ⟨y1, r1⟩ := key q1
    obtain ⟨y2, r2⟩ := key q2
    exact h.own j k p y1 y2 r1 r2 q3 q4
theorem ws_app {i : Nat} {xs : List D} (hi : ds[i]? = some (some (.o xs))) (h : WE c te ds pl (isD fun x p1 => xs.length < sizeLine ∧ E.nx (ds.set i (some (.o (xs ++ [x])))) p1)) :
    WS c (tDrop (tBM K "list" rAppend (tVar i) (tCons te tNil))) ds pl E := fun G σ H hs D' f => by
  obtain ⟨v, e1, p, vs, rfl, b1, b2⟩ := hs.slots i _ hi
  refine ⟨_, e1, Or.inl ⟨rfl, _, SqL.of b1⟩, ?_⟩
  refine h G σ H hs _ fun v G1 H1 w p1 h1 e2 f1 g1 => ?_
  match w, f1, g1 with
  | .d x, f1, ⟨g1, g2⟩ =>
    obtain ⟨v', e1', p', vs', rfl, c1, c2, _⟩ := h1.slots i _ hi
    have ep : p' = p := by rw [e1] at e1'; exact (V.ref.inj (Option.some.inj (Option.some.inj e1'))).symm
    subst ep
    refine ⟨p', vs', v, rfl, rfl, c1, by rw [c2.len]; exact g1, ?_⟩
    exact f.nx G1 σ _ _ p1 (h1.chg hi e1 (c2.app (.cons f1 .nil))) e2 g2
theorem ws_setIx {i : Nat} {xs : List D} {ti : TE} (hi : ds[i]? = some (some (.o xs))) (h : WE c te ds pl (isD fun x p1 => WE c ti ds p1 (isI fun k p2 => ∃ j, ixN xs.length k = some j ∧ E.nx (ds.set i (some (.o (xs.set j x)))) p2))) :
    WS c (tAsg te (gSub (tVar i) ti rSetL)) ds pl E := fun G σ H hs D' f => by
  refine h G σ H hs _ fun v G1 H1 w p1 h1 e1 f1 g1 => ?_
  match w, f1, g1 with
  | .d x, f1, g1 =>
    obtain ⟨v0, q1, p, vs, rfl, b1, b2, _⟩ := h1.slots i _ hi
    refine ⟨_, q1, ?_⟩
    refine g1 G1 σ H1 h1 _ fun u G2 H2 w2 p2 h2 e2 f2 g2 => ?_
    match w2, f2, g2 with
    | .d (.int k), f2, ⟨j, g2, g3⟩ =>
      cases f2
      obtain ⟨v', q1', p', vs', rfl, c1, c2, _⟩ := h2.slots i _ hi
      have ep : p' = p := by rw [q1] at q1'; exact (V.ref.inj (Option.some.inj (Option.some.inj q1'))).symm
      subst ep
      refine ⟨p', vs', k, j, rfl, rfl, c1, by rw [c2.len]; exact g2, ?_⟩
      exact f.nx G2 σ _ _ p2 (h2.chg hi q1 (c2.set (R.up f1 e2) j)) (e1.trans e2) g3
theorem ws_setP {i : Nat} {p : Addr} {ti : TE} (hi : ds[i]? = some (some (.v (.ref p)))) (hp : c.pool = some p) (h : WE c te ds pl (isD fun x p1 => WE c ti ds p1 (isI fun k p2 => ∃ j, ixN p2.length k = some j ∧ E.nx ds (p2.set j x)))) :
    WS c (tAsg te (gSub (tVar i) ti rSetL)) ds pl E := fun G σ H hs D' f => by
  refine h G σ H hs _ fun v G1 H1 w p1 h1 e1 f1 g1 => ?_
  match w, f1, g1 with
  | .d x, f1, g1 =>
    obtain ⟨v0, q1, q2⟩ := h1.slots i _ hi
    have q2' : v0 = .ref p := q2
    subst q2'
    refine ⟨_, q1, ?_⟩
    refine g1 G1 σ H1 h1 _ fun u G2 H2 w2 p2 h2 e2 f2 g2 => ?_
    match w2, f2, g2 with
    | .d (.int k), f2, ⟨j, g2, g3⟩ =>
      cases f2
      obtain ⟨_, _, vs', c1, c2⟩ := h2.pl p hp
      refine ⟨p, vs', k, j, rfl, rfl, c1, by rw [c2.len]; exact g2, ?_⟩
      exact f.nx G2 σ _ _ _ (h2.setPool hp (c2.set (R.up f1 e2) j)) (e1.trans e2) g3
/-- a slot's list is no longer changed: it is data from here on -/
theorem ws_frz {i : Nat} {xs : List D} (hi : ds[i]? = some (some (.o xs))) (h : WS c t (ds.set i (some (.d (.list xs)))) pl E) : WS c t ds pl E := fun G σ H hs D' f => by
  obtain ⟨v, e1, p, vs, rfl, b1, b2, b3, b4, b5, b6, b7⟩ := hs.slots i _ hi
  have s2 : Ex G (upd G p (.lst vs)) := Ex.new b3
  have hlt : i < ds.length := (List.getElem?_eq_some_iff.mp hi).1
  refine h (upd G p (.lst vs)) σ H ⟨fun a o q => ?_, fun a q => ?_, fun a q => ?_, fun a o q => ?_, hs.keep, fun q z => ?_, hs.pin, hs.hid, by rw [List.length_set]; exact hs.len, fun j w q => ?_, fun j k p' xs' ys q1 q2 q3 q4 => ?_⟩ D' (f.up s2)
  · by_cases z : a = p
    · subst z; rw [upd_same] at q; cases q; exact b1
    · rw [upd_ne z] at q; exact hs.sub a o q
  · rw [upd_ne (fun z : a = p => b7 (z ▸ q))]; exact hs.gh a q
  · rw [upd_ne (fun z : a = p => b6 (z ▸ q))]; exact hs.gq a q
  · rw [upd_ne (fun z : a = p => by rw [z, b5] at q; cases q)]; exact hs.gn a o q
  · obtain ⟨c1, c2, vs', c3, c4⟩ := hs.pl q z
    exact ⟨c1, c2, vs', c3, c4.up s2⟩
  · by_cases e : i = j
    · subst e
      rw [List.getElem?_set_self hlt] at q
      cases q
      exact ⟨_, e1, R.lst upd_same (b2.up s2)⟩
    · rw [List.getElem?_set_ne e] at q
      obtain ⟨v, d1, d2⟩ := hs.slots j w q
      refine ⟨v, d1, ?_⟩
      cases w with
      | d x => exact R.up d2 s2
      | v x => exact d2
      | o ys =>
        obtain ⟨q', us', rfl, k1, k2, k3, k4⟩ := d2
        refine ⟨q', us', rfl, k1, k2.up s2, ?_, k4⟩
        rw [upd_ne (fun z : q' = p => e (hs.own i j p xs ys hi q e1 (by rw [z] at d1; exact d1)))]
        exact k3
  · have key : ∀ {m : Nat} {zs : List D}, (ds.set i (some (.d (.list xs))))[m]? = some (some (.o zs)) → ds[m]? = some (some (.o zs)) := fun {m zs} q => by
      by_cases e : i = m
      · subst e; rw [List.getElem?_set_self hlt] at q; cases q
      · rw [List.getElem?_set_ne e] at q; exact q
    exact hs.own j k p' xs' ys (key q1) (key q2) q3 q4
theorem ws_retO {i : Nat} {xs : List D} (hi : ds[i]? = some (some (.o xs))) (h : E.rt (.d (.list xs)) pl) : WS c (tRet (tVar i)) ds pl E :=
  ws_frz hi (ws_ret (we_var (w := .d (.list xs)) (List.getElem?_set_self (List.getElem?_eq_some_iff.mp hi).1) h))
/-- a, b = e -/
theorem ws_unp {i j : Nat} (h : WE c te ds pl (isD fun d p1 => ∃ x y, d = .tuple [x, y] ∧ E.nx ((ds.set i (some (.d x))).set j (some (.d y))) p1)) : WS c (tAsg te (gTup K 2 (gCons (gName i) (gCons (gName j) gNil)))) ds pl E := fun G σ H hs D' f =>
  h G σ H hs _ fun v G1 H1 w p1 h1 e1 f1 g1 => by
    match w, f1, g1 with
    | .d d, f1, ⟨x, y, ed, g1⟩ =>
      subst ed
      cases f1 with
      | tup a b =>
        cases b with
        | cons r1 b =>
          cases b with
          | cons r2 b =>
            cases b
            refine ⟨_, _, rfl, SqT.of (h1.sub _ _ a), rfl, _, _, rfl, _, _, rfl, rfl, ?_⟩
            exact f.nx G1 _ H1 _ p1 ((h1.set (w := .d x) r1 fun xs z => by cases z).set (w := .d y) r2 fun xs z => by cases z) e1 g1
theorem ws_par {i j : Nat} (h : WA c tr ds pl fun xs p1 => ∃ x y, xs = [x, y] ∧ E.nx ((ds.set i (some (.d x))).set j (some (.d y))) p1) : WS c (tPar i j tr) ds pl E := fun G σ H hs D' f =>
  h G σ H hs _ fun vs G1 H1 xs p1 h1 e1 f1 ⟨x, y, e, g1⟩ => by
    subst e
    cases f1 with
    | cons r1 b =>
      cases b with
      | cons r2 b =>
        cases b
        exact ⟨_, _, rfl, f.nx G1 _ H1 _ p1 ((h1.set (w := .d x) r1 fun xs z => by cases z).set (w := .d y) r2 fun xs z => by cases z) e1 g1⟩

/-! ### loops -/
theorem ws_forL {j : Nat} {tl : TE} (I : Nat → DS → List D → Prop) (xs : List D) (h : WE c tl ds pl (isD fun d p1 => d = .list xs ∧ I 0 ds p1))
    (hs : ∀ i x ds' pl', xs[i]? = some x → I i ds' pl' → WS c t (ds'.set j (some (.d x))) pl' { nx := I (i + 1), ct := I (i + 1), bk := E.nx, rt := E.rt }) (hd : ∀ ds' pl', I xs.length ds' pl' → E.nx ds' pl') :
    WS c (tFor (iList K tl) (gName j) t) ds pl E := fun G σ H h0 D' f => h G σ H h0 _ fun v G1 H1 w p1 h1 e1 f1 g1 => by
  match w, f1, g1 with
  | .d d, f1, ⟨ed, g1⟩ =>
    subst ed
    cases f1 with
    | @lst a vs _ a1 b1 =>
    refine ⟨a, rfl, ⟨vs, SqL.of (h1.sub _ _ a1)⟩, for_list (K := K) (a := a) (xs := vs) (fun i σ' H' => ∃ G' ds' pl', HS c G' σ' H' ds' pl' ∧ Ex G1 G' ∧ I i ds' pl') ⟨G1, ds, p1, h1, Ex.refl _, g1⟩ ?_ ?_ ?_⟩
    · rintro i σ' H' _ ⟨G', ds', pl', h2, e2, _⟩
      exact SqL.of (h2.sub _ _ (e2 _ _ a1))
    · rintro i x σ' H' hx ⟨G', ds', pl', h2, e2, g2⟩
      obtain ⟨d, hd1, hd2⟩ := b1.get' hx
      refine hs i d ds' pl' hd1 g2 G' _ H' (h2.set (w := .d d) (R.up hd2 e2) fun xs z => by cases z) _ ⟨?_, ?_, ?_, ?_⟩
      · exact fun G3 σ3 H3 ds3 pl3 h3 e3 g3 => ⟨G3, ds3, pl3, h3, e2.trans e3, g3⟩
      · exact fun v G3 σ3 H3 ds3 w3 pl3 h3 e3 q3 g3 => f.rt v G3 σ3 H3 ds3 w3 pl3 h3 ((e1.trans e2).trans e3) q3 g3
      · exact fun G3 σ3 H3 ds3 pl3 h3 e3 g3 => f.nx G3 σ3 H3 ds3 pl3 h3 ((e1.trans e2).trans e3) g3
      · exact fun G3 σ3 H3 ds3 pl3 h3 e3 g3 => ⟨G3, ds3, pl3, h3, e2.trans e3, g3⟩
    · rintro σ' H' ⟨G', ds', pl', h2, e2, g2⟩
      rw [b1.len] at g2
      exact f.nx G' σ' H' ds' pl' h2 (e1.trans e2) (hd _ _ g2)
theorem ws_forT {j : Nat} {tl : TE} (I : Nat → DS → List D → Prop) (xs : List D) (h : WE c tl ds pl (isD fun d p1 => d = .tuple xs ∧ I 0 ds p1))
    (hs : ∀ i x ds' pl', xs[i]? = some x → I i ds' pl' → WS c t (ds'.set j (some (.d x))) pl' { nx := I (i + 1), ct := I (i + 1), bk := E.nx, rt := E.rt }) (hd : ∀ ds' pl', I xs.length ds' pl' → E.nx ds' pl') :
    WS c (tFor (iTup K tl) (gName j) t) ds pl E := fun G σ H h0 D' f => h G σ H h0 _ fun v G1 H1 w p1 h1 e1 f1 g1 => by
  match w, f1, g1 with
  | .d d, f1, ⟨ed, g1⟩ =>
    subst ed
    cases f1 with
    | @tup a vs _ a1 b1 =>
    refine ⟨a, rfl, ⟨vs, SqT.of (h1.sub _ _ a1)⟩, for_tup (K := K) (a := a) (xs := vs) (fun i σ' H' => ∃ G' ds' pl', HS c G' σ' H' ds' pl' ∧ Ex G1 G' ∧ I i ds' pl') ⟨G1, ds, p1, h1, Ex.refl _, g1⟩ ?_ ?_ ?_⟩
    · rintro i σ' H' _ ⟨G', ds', pl', h2, e2, _⟩
      exact SqT.of (h2.sub _ _ (e2 _ _ a1))
    · rintro i x σ' H' hx ⟨G', ds', pl', h2, e2, g2⟩
      obtain ⟨d, hd1, hd2⟩ := b1.get' hx
      refine hs i d ds' pl' hd1 g2 G' _ H' (h2.set (w := .d d) (R.up hd2 e2) fun xs z => by cases z) _ ⟨?_, ?_, ?_, ?_⟩
      · exact fun G3 σ3 H3 ds3 pl3 h3 e3 g3 => ⟨G3, ds3, pl3, h3, e2.trans e3, g3⟩
      · exact fun v G3 σ3 H3 ds3 w3 pl3 h3 e3 q3 g3 => f.rt v G3 σ3 H3 ds3 w3 pl3 h3 ((e1.trans e2).trans e3) q3 g3
      · exact fun G3 σ3 H3 ds3 pl3 h3 e3 g3 => f.nx G3 σ3 H3 ds3 pl3 h3 ((e1.trans e2).trans e3) g3
      · exact fun G3 σ3 H3 ds3 pl3 h3 e3 g3 => ⟨G3, ds3, pl3, h3, e2.trans e3, g3⟩
    · rintro σ' H' ⟨G', ds', pl', h2, e2, g2⟩
      rw [b1.len] at g2
      exact f.nx G' σ' H' ds' pl' h2 (e1.trans e2) (hd _ _ g2)
theorem for_rng {j : Nat} {G1 H1 : Hp} {p1 : List D} {D' : Ends} {lo : Int} {n : Nat} (I : Nat → DS → List D → Prop) (h1 : HS c G1 σ H1 ds p1) (f : Fits c G1 D' E) (g1 : I 0 ds p1)
    (hs : ∀ (i : Nat) ds' pl', i < n → I i ds' pl' → WS c t (ds'.set j (some (.d (.int (lo + i))))) pl' { nx := I (i + 1), ct := I (i + 1), bk := E.nx, rt := E.rt }) (hd : ∀ ds' pl', I n ds' pl' → E.nx ds' pl') :
    ∃ W : Nat → Nat → L2.St → Hp → Prop, (∃ m, W 0 m σ H1) ∧ ∀ i m σ H, W i m σ H → ((Itr lo n).stop i H ∧ D'.nx σ H) ∨ ((Itr lo n).go i H ∧ ∃ N : L2.St → Hp → Prop, (∀ σ' H', N σ' H' → ∃ m', m' < m ∧ W (i + 1) m' σ' H') ∧
      ∀ x H', (Itr lo n).yld i H x H' → gName j x σ H' fun σ2 H2 => t { D' with nx := N, ct := N, bk := D'.nx } σ2 H2) := by
  refine for_range (lo := lo) (n := n) (g := gName j) (fun i σ' H' => ∃ G' ds' pl', HS c G' σ' H' ds' pl' ∧ Ex G1 G' ∧ I i ds' pl') ⟨G1, ds, p1, h1, Ex.refl _, g1⟩ ?_ ?_
  · rintro i σ' H' hx ⟨G', ds', pl', h2, e2, g2⟩
    refine hs i ds' pl' hx g2 G' _ H' (h2.set (w := .d (.int (lo + i))) (R.int _) fun xs z => by cases z) _ ⟨?_, ?_, ?_, ?_⟩
    · exact fun G3 σ3 H3 ds3 pl3 h3 e3 g3 => ⟨G3, ds3, pl3, h3, e2.trans e3, g3⟩
    · exact fun v G3 σ3 H3 ds3 w3 pl3 h3 e3 q3 g3 => f.rt v G3 σ3 H3 ds3 w3 pl3 h3 (e2.trans e3) q3 g3
    · exact fun G3 σ3 H3 ds3 pl3 h3 e3 g3 => f.nx G3 σ3 H3 ds3 pl3 h3 (e2.trans e3) g3
    · exact fun G3 σ3 H3 ds3 pl3 h3 e3 g3 => ⟨G3, ds3, pl3, h3, e2.trans e3, g3⟩
  · rintro σ' H' ⟨G', ds', pl', h2, e2, g2⟩
    exact f.nx G' σ' H' ds' pl' h2 e2 (hd _ _ g2)
theorem ws_forR1 {j : Nat} (I : Nat → DS → List D → Prop) (n : Nat) (h : WA c tr ds pl fun xs p1 => ∃ k : Int, xs = [.int k] ∧ k.toNat = n ∧ -(2 ^ 62) ≤ k ∧ k < 2 ^ 62 ∧ I 0 ds p1)
    (hs : ∀ (i : Nat) ds' pl', i < n → I i ds' pl' → WS c t (ds'.set j (some (.d (.int i)))) pl' { nx := I (i + 1), ct := I (i + 1), bk := E.nx, rt := E.rt }) (hd : ∀ ds' pl', I n ds' pl' → E.nx ds' pl') :
    WS c (tFor (iRng1 tr) (gName j) t) ds pl E := fun G σ H h0 D' f => h G σ H h0 _ fun vs G1 H1 xs p1 h1 e1 f1 ⟨k, e, en, b1, b2, g1⟩ => by
  subst e en
  cases f1 with
  | cons r1 b =>
    cases b
    cases r1
    refine ⟨k, rfl, b1, b2, for_rng I h1 (f.up e1) g1 (fun i ds' pl' hi g => ?_) hd⟩
    rw [Int.zero_add]
    exact hs i ds' pl' hi g
theorem ws_forR2 {j : Nat} (I : Nat → DS → List D → Prop) (lo hi : Int) (h : WA c tr ds pl fun xs p1 => xs = [.int lo, .int hi] ∧ (-(2 ^ 62) ≤ lo ∧ lo < 2 ^ 62 ∧ -(2 ^ 62) ≤ hi ∧ hi < 2 ^ 62) ∧ I 0 ds p1)
    (hs : ∀ (i : Nat) ds' pl', i < (hi - lo).toNat → I i ds' pl' → WS c t (ds'.set j (some (.d (.int (lo + i))))) pl' { nx := I (i + 1), ct := I (i + 1), bk := E.nx, rt := E.rt }) (hd : ∀ ds' pl', I (hi - lo).toNat ds' pl' → E.nx ds' pl') :
    WS c (tFor (iRng2 tr) (gName j) t) ds pl E := fun G σ H h0 D' f => h G σ H h0 _ fun vs G1 H1 xs p1 h1 e1 f1 ⟨e, b1, g1⟩ => by
  subst e
  cases f1 with
  | cons r1 b =>
    cases b with
    | cons r2 b =>
      cases b
      cases r1
      cases r2
      exact ⟨lo, hi, rfl, b1, for_rng I h1 (f.up e1) g1 hs hd⟩
theorem ws_while {tt : TT} (I : Nat → DS → List D → Prop) (m0 : Nat) (h0 : I m0 ds pl)
    (hs : ∀ m ds' pl', I m ds' pl' → WT c tt ds' pl' fun b p1 => if b = true then WS c t ds' p1 { nx := fun d p => ∃ m', m' < m ∧ I m' d p, ct := fun d p => ∃ m', m' < m ∧ I m' d p, bk := E.nx, rt := E.rt } else E.nx ds' p1) : WS c (tWhile tt t) ds pl E :=
  fun G σ H hs0 D' f => ⟨fun m σ' H' => ∃ G' ds' pl', HS c G' σ' H' ds' pl' ∧ Ex G G' ∧ I m ds' pl', ⟨m0, G, ds, pl, hs0, Ex.refl _, h0⟩, by
    rintro m σ' H' ⟨G', ds', pl', h1, e1, g1⟩
    refine hs m ds' pl' g1 G' σ' H' h1 _ fun b G2 H2 p2 h2 e2 g2 => ?_
    cases b with
    | true =>
      refine ⟨fun σ3 H3 => ∃ m', m' < m ∧ ∃ G3 ds3 pl3, HS c G3 σ3 H3 ds3 pl3 ∧ Ex G G3 ∧ I m' ds3 pl3, fun σ3 H3 ⟨m', l, q⟩ => ⟨m', l, q⟩, ?_⟩
      refine (show WS c t ds' p2 _ from g2) G2 σ' H2 h2 _ ⟨?_, ?_, ?_, ?_⟩
      · exact fun G3 σ3 H3 ds3 pl3 h3 e3 ⟨m', l, g3⟩ => ⟨m', l, G3, ds3, pl3, h3, (e1.trans e2).trans e3, g3⟩
      · exact fun v G3 σ3 H3 ds3 w3 pl3 h3 e3 q3 g3 => f.rt v G3 σ3 H3 ds3 w3 pl3 h3 ((e1.trans e2).trans e3) q3 g3
      · exact fun G3 σ3 H3 ds3 pl3 h3 e3 g3 => f.nx G3 σ3 H3 ds3 pl3 h3 ((e1.trans e2).trans e3) g3
      · exact fun G3 σ3 H3 ds3 pl3 h3 e3 ⟨m', l, g3⟩ => ⟨m', l, G3, ds3, pl3, h3, (e1.trans e2).trans e3, g3⟩
    | false => exact f.nx G2 σ' H2 ds' p2 h2 (e1.trans e2) g2⟩
end
end PD

/-! PD4: sizes of data, repr, built-ins, comprehensions, defs whole -/
namespace PD
open PySem PySem.Spec PyProof.Rows L2 Evl

/-! ### data that is small enough to be shown and compared -/
def okD : Nat → D → Prop
  | _, .none => True
  | _, .bool _ => True
  | _, .int i => i.natAbs < 10 ^ 150
  | _, .str x => PyData.strOk x = true ∧ x.length ≤ 15
  | n + 1, .list xs => ∀ x ∈ xs, okD n x
  | n + 1, .tuple xs => ∀ x ∈ xs, okD n x
  | 0, .list _ => False
  | 0, .tuple _ => False
  | _, .dict _ => False
mutual
def cnt : D → Nat
  | .list xs => cntA xs + 1
  | .tuple xs => cntA xs + 1
  | _ => 1
def cntA : List D → Nat
  | [] => 0
  | x :: xs => cnt x + cntA xs
end
theorem cntA_le {k : Nat} : ∀ xs : List D, (∀ x ∈ xs, cnt x ≤ k) → cntA xs ≤ xs.length * k
  | [], _ => by show 0 ≤ _; omega
  | x :: xs, h => by
    have h1 := h x List.mem_cons_self
    have h2 := cntA_le xs fun y hy => h y (List.mem_cons_of_mem _ hy)
    show cnt x + cntA xs ≤ (xs.length + 1) * k
    rw [Nat.add_mul]
    omega
theorem cntA_app : ∀ xs ys : List D, cntA (xs ++ ys) = cntA xs + cntA ys
  | [], ys => by show cntA ys = 0 + cntA ys; omega
  | x :: xs, ys => by
    show cnt x + cntA (xs ++ ys) = cnt x + cntA xs + cntA ys
    rw [cntA_app xs ys]
    omega
theorem cntA_ints : ∀ ns : List Int, cntA (ns.map PyData.int) = ns.length
  | [] => rfl
  | n :: ns => by
    show 1 + cntA (ns.map PyData.int) = ns.length + 1
    rw [cntA_ints ns]
    omega
theorem okD_up {n : Nat} : ∀ {m : Nat} {d : D}, okD m d → m ≤ n → okD n d := by
  induction n with
  | zero =>
    intro m d h e
    have e0 : m = 0 := by omega
    subst e0
    exact h
  | succ n ih =>
    intro m d h e
    cases m with
    | zero => cases d <;> first | exact h | exact h.elim
    | succ m => cases d <;> first | exact h | exact fun x hx => ih (h x hx) (by omega)
theorem int_shown {i : Int} (h : i.natAbs < 10 ^ 150) : (PyData.shown (.int i)).length ≤ 151 ∧ i.natAbs.log2 < 1920 := by
  constructor
  · have e := int_text_length_le10 (k := 150) (by decide) h
    show (Str.ofString (toString i)).length ≤ 151
    rw [PySem.ofString_length]
    exact e
  · have h2 : i.natAbs < 2 ^ 600 := Nat.lt_trans h (by decide +kernel)
    exact Nat.lt_of_lt_of_le (PySem.Flt.log2_lt_of (by decide) h2) (by decide)
structure Fine (n : Nat) (d : D) : Prop where
  show_ : d.showable = true
  nodict : d.hasDict = false
  depth : d.depth ≤ n + 1
  lay : d.canLay0 = true
  len : d.shown.length + 2 ≤ 220 * cnt d
structure FineA (n : Nat) (ds : List D) : Prop where
  show_ : PyData.showableAll ds = true
  nodict : PyData.hasDictAll ds = false
  depth : PyData.depthAll ds ≤ n + 1
  lay : PyData.canLayAll0 ds = true
  len : ((PyData.shownAll ds).map (·.length)).sum + 2 * ds.length ≤ 220 * cntA ds
  same : (PyData.shownAll ds).length = ds.length
theorem fineA_of {n : Nat} : ∀ {ds : List D}, (∀ x ∈ ds, Fine n x) → FineA n ds
  | [], _ => ⟨rfl, rfl, Nat.zero_le _, rfl, Nat.zero_le _, rfl⟩
  | d :: ds, h => by
    have a := h d List.mem_cons_self
    have b := fineA_of (ds := ds) fun x hx => h x (List.mem_cons_of_mem _ hx)
    refine ⟨?_, ?_, ?_, ?_, ?_, ?_⟩
    · simp only [PyData.showableAll, a.show_, b.show_, Bool.and_self]
    · simp only [PyData.hasDictAll, a.nodict, b.nodict, Bool.or_self]
    · simp only [PyData.depthAll]
      exact Nat.max_le.mpr ⟨a.depth, b.depth⟩
    · simp only [PyData.canLayAll0, a.lay, b.lay, Bool.and_self]
    · have e : cntA (d :: ds) = cnt d + cntA ds := rfl
      have h1 := a.len
      have h2 := b.len
      rw [e, Nat.mul_add]
      simp only [PyData.shownAll, List.map_cons, List.sum_cons, List.length_cons]
      omega
    · simp only [PyData.shownAll, List.length_cons, b.same]
theorem fine_of : ∀ {n : Nat} {d : D}, okD n d → Fine n d := by
  intro n
  induction n with
  | zero =>
    intro d h
    cases d with
    | none => exact ⟨rfl, rfl, Nat.zero_le _, rfl, by decide⟩
    | bool b => exact ⟨rfl, rfl, Nat.zero_le _, rfl, by cases b <;> decide⟩
    | int i =>
      obtain ⟨a, b⟩ := int_shown (show i.natAbs < 10 ^ 150 from h)
      refine ⟨by simp only [PyData.showable, decide_eq_true_eq]; exact b, rfl, Nat.zero_le _, rfl, ?_⟩
      show (PyData.shown (.int i)).length + 2 ≤ 220 * 1
      omega
    | str x =>
      obtain ⟨a, b⟩ := (show PyData.strOk x = true ∧ x.length ≤ 15 from h)
      refine ⟨rfl, rfl, Nat.zero_le _, a, ?_⟩
      have h0 : ∀ c ∈ x.cps.toList, c < 16 ^ 8 := by
        intro c hc
        have a' : x.cps.all (· < 0x110000) = true := a
        have := (Array.all_eq_true_iff_forall_mem.mp a') c (Array.mem_toList_iff.mp hc)
        have e : (16 : Nat) ^ 8 = 4294967296 := by decide
        have q : c < 0x110000 := by simpa using this
        omega
      have := StrLaws.reprText_len x h0
      show (reprText x).length + 2 ≤ 220 * 1
      omega
    | list xs => exact (show False from h).elim
    | tuple xs => exact (show False from h).elim
    | dict _ => exact (show False from h).elim
  | succ n ih =>
    intro d h
    cases d with
    | none => exact ⟨rfl, rfl, Nat.zero_le _, rfl, by decide⟩
    | bool b => exact ⟨rfl, rfl, Nat.zero_le _, rfl, by cases b <;> decide⟩
    | int i =>
      obtain ⟨a, b⟩ := int_shown (show i.natAbs < 10 ^ 150 from h)
      refine ⟨by simp only [PyData.showable, decide_eq_true_eq]; exact b, rfl, Nat.zero_le _, rfl, ?_⟩
      show (PyData.shown (.int i)).length + 2 ≤ 220 * 1
      omega
    | str x =>
      have q := ih (d := .str x) (by cases n <;> exact h)
      exact ⟨q.show_, q.nodict, by have := q.depth; omega, q.lay, q.len⟩
    | list xs =>
      have a := fineA_of fun x hx => ih ((show ∀ x ∈ xs, okD n x from h) x hx)
      refine ⟨by simp only [PyData.showable, a.show_], by simp only [PyData.hasDict, a.nodict], by simp only [PyData.depth]; have := a.depth; omega, by simp only [PyData.canLay0, a.lay], ?_⟩
      have e : cnt (.list xs) = cntA xs + 1 := rfl
      have h1 := listText_len_le (PyData.shownAll xs)
      have h2 := a.len
      have h3 := a.same
      rw [e]
      simp only [PyData.shown]
      omega
    | tuple xs =>
      have a := fineA_of fun x hx => ih ((show ∀ x ∈ xs, okD n x from h) x hx)
      refine ⟨by simp only [PyData.showable, a.show_], by simp only [PyData.hasDict, a.nodict], by simp only [PyData.depth]; have := a.depth; omega, by simp only [PyData.canLay0, a.lay], ?_⟩
      have e : cnt (.tuple xs) = cntA xs + 1 := rfl
      have h1 := tupleText_len_le (PyData.shownAll xs)
      have h2 := a.len
      have h3 := a.same
      rw [e]
      simp only [PyData.shown]
      omega
    | dict _ => exact (show False from h).elim
theorem shaped_of {d : D} (h : okD 20 d) : SeqAt.shaped d = true := by
  have f := fine_of h
  unfold SeqAt.shaped
  rw [f.lay]
  exact decide_eq_true (by have := f.depth; omega)

/-! ### repr -/
def rRepr (K : PySem.W.Frag) : List V → Hp → VK → Prop := fun xs H Q => ∃ v d, xs = [v] ∧ Dp K H v d ∧ okD 20 d ∧ cnt d ≤ 60000 ∧ Q (.str d.shown) H
section
variable {X : Cx}
theorem call_repr (hG : X.A.guards = some []) (hu : X.A.units + 64 < cLine) : CallR X (.builtin "repr") (rRepr X.K) := by
  intro pins s σ H xs us Q I r h
  obtain ⟨v, d, rfl, hd, ok, hc, q⟩ := h
  obtain ⟨u, rfl, ru⟩ := vals1 r
  obtain ⟨as, rd⟩ := Dp.reads I d v u hd ru
  have f := fine_of ok
  have hz : d.shown.length ≤ sizeLine := by
    have := f.len
    rw [sizeLine_eq]
    omega
  cases hd with
  | non =>
    cases ru
    exact PySem.P.repr_of_none ⟨.str _, H, I.tok _, ⟨_, rfl⟩, q⟩
  | bl b =>
    cases ru
    refine PySem.P.repr_of_bool ⟨.str _, H, I.tok _, ⟨_, rfl⟩, ?_⟩
    exact q
  | int i =>
    obtain ⟨t, rfl⟩ := ru
    have b := f.show_
    simp only [PyData.showable, decide_eq_true_eq] at b
    exact PySem.P.repr_of_int b ⟨.str _, H, I.tok _, ⟨_, rfl⟩, q⟩
  | str x =>
    obtain ⟨t, rfl⟩ := ru
    exact PySem.P.repr_of_str ⟨.str _, H, I.tok _, ⟨_, rfl⟩, q⟩ hz
  | lst a b =>
    cases ru
    refine repr_of_reads' rd f.show_ (PyData.noDict_hsm f.nodict) hG (by have := f.depth; omega) (fun _ _ z => z) (fun h' u tk hk => ?_) hz
    exact ⟨.str _, H, I.kept hk, ⟨u, rfl⟩, q⟩
  | tup a b =>
    cases ru
    refine repr_of_reads' rd f.show_ (PyData.noDict_hsm f.nodict) hG (by have := f.depth; omega) (fun _ _ z => z) (fun h' u tk hk => ?_) hz
    exact ⟨.str _, H, I.kept hk, ⟨u, rfl⟩, q⟩
/-- ** of a great int -/
def CPowW (i j : Int) : Prop := 0 ≤ j ∧ j ≤ 1000 ∧ i.natAbs < 2 ^ 2000
theorem op_powW : OpR X (binaryOp .Pow) (rI CPowW fun i j => .int (i ^ j.toNat)) := opI fun i j _ _ _ _ _ hc q => by
  refine pow_int hc.1 ?_ q
  have b : Builtin.Int.intBits i ≤ 2001 := by
    have h1 := PySem.Flt.log2_lt_of (by decide) hc.2.2
    unfold Builtin.Int.intBits
    split <;> omega
  have h2 : (Builtin.Int.intBits i : Int) * j ≤ 2001 * 1000 := Int.mul_le_mul (by omega) hc.2.1 hc.1 (by omega)
  omega
end

section
variable {c : Cn} {K : PySem.W.Frag} {ds : DS} {pl : List D} {Φ : W → List D → Prop} {ta tb te : TE} {tr : TA}
/-! ### calls of built-ins -/
def CbS (c : Cn) (r : List V → Hp → VK → Prop) (ds : DS) (xs : List D) (p1 : List D) (Φ : W → List D → Prop) : Prop := ∀ G σ H vs, HS c G σ H ds p1 → RA G vs xs → ∀ Q : VK, Co c ds G σ Φ Q → r vs H Q
theorem we_cb {r : List V → Hp → VK → Prop} (ha : WA c tr ds pl fun xs p1 => CbS c r ds xs p1 Φ) : WE c (tCB r tr) ds pl Φ := fun G σ H hs Q q =>
  ha G σ H hs _ fun vs G1 H1 xs p1 h1 e1 f1 g1 => g1 G1 σ H1 vs h1 f1 Q fun z G2 H2 w p3 h2 e2 f2 g2 => q z G2 H2 w p3 h2 (e1.trans e2) f2 g2
theorem ra1 {G : Hp} {vs : List V} {d : D} (h : RA G vs [d]) : ∃ v, vs = [v] ∧ R G v d := by
  cases h with
  | cons a b => cases b; exact ⟨_, rfl, a⟩
theorem ra2 {G : Hp} {vs : List V} {d e : D} (h : RA G vs [d, e]) : ∃ v u, vs = [v, u] ∧ R G v d ∧ R G u e := by
  cases h with
  | cons a b =>
    cases b with
    | cons a' b => cases b; exact ⟨_, _, rfl, a, a'⟩
theorem cb_abs {i : Int} (h : Φ (.d (.int i.natAbs)) pl) : CbS c (fun xs H Q => ∃ i, xs = [.int i] ∧ Q (.int (if i < 0 then -i else i)) H) ds [.int i] pl Φ := fun G σ H vs hs f Q q => by
  obtain ⟨v, rfl, a⟩ := ra1 f
  cases a
  refine ⟨i, rfl, ?_⟩
  have e : (if i < 0 then -i else i) = ((i.natAbs : Nat) : Int) := by split <;> omega
  rw [e]
  exact q _ G H (.d _) pl hs (Ex.refl _) (R.int _) h
theorem cb_max2 {i j : Int} (h : Φ (.d (.int (max i j))) pl) : CbS c (fun xs H Q => ∃ i j, xs = [.int i, .int j] ∧ Q (.int (if j > i then j else i)) H) ds [.int i, .int j] pl Φ := fun G σ H vs hs f Q q => by
  obtain ⟨v, u, rfl, a, b⟩ := ra2 f
  cases a
  cases b
  refine ⟨i, j, rfl, ?_⟩
  have e : (if j > i then j else i) = max i j := by split <;> omega
  rw [e]
  exact q _ G H (.d _) pl hs (Ex.refl _) (R.int _) h
theorem cb_min2 {i j : Int} (h : Φ (.d (.int (min i j))) pl) : CbS c (fun xs H Q => ∃ i j, xs = [.int i, .int j] ∧ Q (.int (if j < i then j else i)) H) ds [.int i, .int j] pl Φ := fun G σ H vs hs f Q q => by
  obtain ⟨v, u, rfl, a, b⟩ := ra2 f
  cases a
  cases b
  refine ⟨i, j, rfl, ?_⟩
  have e : (if j < i then j else i) = min i j := by split <;> omega
  rw [e]
  exact q _ G H (.d _) pl hs (Ex.refl _) (R.int _) h
abbrev rInt1 : List V → Hp → VK → Prop := fun xs H Q => (∃ i, xs = [.int i] ∧ Q (.int i) H) ∨ ∃ k, xs = [.bl k] ∧ Q (.int (if k then 1 else 0)) H
theorem cb_int {i : Int} (h : Φ (.d (.int i)) pl) : CbS c rInt1 ds [.int i] pl Φ := fun G σ H vs hs f Q q => by
  obtain ⟨v, rfl, a⟩ := ra1 f
  cases a
  exact .inl ⟨i, rfl, q _ G H (.d _) pl hs (Ex.refl _) (R.int _) h⟩
theorem cb_intB {b : Bool} (h : Φ (.d (.int (if b then 1 else 0))) pl) : CbS c rInt1 ds [.bool b] pl Φ := fun G σ H vs hs f Q q => by
  obtain ⟨v, rfl, a⟩ := ra1 f
  cases a
  exact .inr ⟨b, rfl, q _ G H (.d _) pl hs (Ex.refl _) (R.int _) h⟩
abbrev rLenQ (K : PySem.W.Frag) : List V → Hp → VK → Prop := fun xs H Q => ∃ p ys, xs = [.ref p] ∧ (SqL K H p ys ∨ SqT K H p ys) ∧ Q (.int ys.length) H
theorem cb_lenL {xs : List D} (h : Φ (.d (.int xs.length)) pl) : CbS c (rLenQ K) ds [.list xs] pl Φ := fun G σ H vs hs f Q q => by
  obtain ⟨v, rfl, a⟩ := ra1 f
  cases a with
  | lst a b =>
    refine ⟨_, _, rfl, .inl (SqL.of (hs.sub _ _ a)), ?_⟩
    rw [b.len]
    exact q _ G H (.d _) pl hs (Ex.refl _) (R.int _) h
theorem cb_lenT {xs : List D} (h : Φ (.d (.int xs.length)) pl) : CbS c (rLenQ K) ds [.tuple xs] pl Φ := fun G σ H vs hs f Q q => by
  obtain ⟨v, rfl, a⟩ := ra1 f
  cases a with
  | tup a b =>
    refine ⟨_, _, rfl, .inr (SqT.of (hs.sub _ _ a)), ?_⟩
    rw [b.len]
    exact q _ G H (.d _) pl hs (Ex.refl _) (R.int _) h
abbrev rListQ (K : PySem.W.Frag) : List V → Hp → VK → Prop := fun xs H Q => ∃ p ys, xs = [.ref p] ∧ (SqL K H p ys ∨ SqT K H p ys) ∧ ∀ l, H l = none → Q (.ref l) (upd H l (.lst ys))
theorem cb_list {xs : List D} (h : Φ (.d (.list xs)) pl) : CbS c (rListQ K) ds [.list xs] pl Φ := fun G σ H vs hs f Q q => by
  obtain ⟨v, rfl, a⟩ := ra1 f
  cases a with
  | lst a b =>
    refine ⟨_, _, rfl, .inl (SqL.of (hs.sub _ _ a)), fun l hl => ?_⟩
    have n := hs.none_of hl
    exact q _ _ _ (.d (.list xs)) pl (hs.newD hl) (Ex.new n.1) (R.lst upd_same (b.up (Ex.new n.1))) h
theorem cb_listT {xs : List D} (h : Φ (.d (.list xs)) pl) : CbS c (rListQ K) ds [.tuple xs] pl Φ := fun G σ H vs hs f Q q => by
  obtain ⟨v, rfl, a⟩ := ra1 f
  cases a with
  | tup a b =>
    refine ⟨_, _, rfl, .inr (SqT.of (hs.sub _ _ a)), fun l hl => ?_⟩
    have n := hs.none_of hl
    exact q _ _ _ (.d (.list xs)) pl (hs.newD hl) (Ex.new n.1) (R.lst upd_same (b.up (Ex.new n.1))) h
theorem cb_repr {d : D} (h1 : okD 20 d) (h2 : cnt d ≤ 60000) (h : Φ (.d (.str d.shown)) pl) : CbS c (rRepr K) ds [d] pl Φ := fun G σ H vs hs f Q q => by
  obtain ⟨v, rfl, a⟩ := ra1 f
  exact ⟨v, d, rfl, R.dp _ _ (a.up hs.sub), h1, h2, q _ G H (.d _) pl hs (Ex.refl _) (R.str _) h⟩
/-- list(range(n)) -/
theorem rgV_ints (n : Nat) : rgV 0 (n : Int) = ((List.range n).map fun (i : Nat) => (i : Int)).map V.int := by
  unfold rgV
  rw [List.map_map]
  have e : ((n : Int) - 0).toNat = n := by omega
  rw [e]
  refine List.map_congr_left fun i _ => ?_
  show V.int (0 + (i : Int)) = V.int (i : Int)
  rw [Int.zero_add]
theorem we_lrange (ha : WE c ta ds pl (isI fun k p1 => ∃ n : Nat, k = (n : Int) ∧ n ≤ 100000 ∧ Φ (.d (.list (((List.range n).map fun (i : Nat) => (i : Int)).map PyData.int))) p1)) : WE c (tLstRg (tRg1 ta)) ds pl Φ := fun G σ H hs Q q =>
  ha G σ H hs _ fun v G1 H1 w p1 h1 e1 f1 g1 => by
    match w, f1, g1 with
    | .d (.int k), f1, ⟨n, ek, hn, g1⟩ =>
      subst ek
      cases f1
      refine ⟨n, rfl, RgOk.of_le (by omega) (by omega) (by omega) (by omega), fun l hl => ?_⟩
      have m := h1.none_of hl
      rw [rgV_ints]
      exact q _ _ _ (.d _) p1 (h1.newD hl) (e1.trans (Ex.new m.1)) (R.lst upd_same ((RA.of_ints _).up (Ex.new m.1))) g1

/-! ### slices -/
theorem cutV_RA {G : Hp} {vs : List V} {xs : List D} (h : RA G vs xs) (lo hi : Option Int) : RA G (cutV vs lo hi) ((xs.drop (HT.sIx xs.length 0 lo)).take (HT.sIx xs.length xs.length hi - HT.sIx xs.length 0 lo)) := by
  unfold cutV
  rw [h.len]
  exact (h.drop _).take _
def WO (c : Cn) (to : TO) (ds : DS) (pl : List D) (Φ : Option Int → List D → Prop) : Prop := ∀ G σ H, HS c G σ H ds pl → ∀ Q : Option Int → Hp → Prop,
  (∀ o G' H' pl', HS c G' σ H' ds pl' → Ex G G' → Φ o pl' → Q o H') → to σ H Q
theorem wo_none {Φ : Option Int → List D → Prop} (h : Φ none pl) : WO c tNoPart ds pl Φ := fun G σ H hs Q q => q none G H pl hs (Ex.refl _) h
theorem wo_some {Φ : Option Int → List D → Prop} (h : WE c te ds pl (isI fun i p1 => Φ (some i) p1)) : WO c (tPart te) ds pl Φ := fun G σ H hs Q q => h G σ H hs _ fun v G1 H1 w p1 h1 e1 f1 g1 => by
  match w, f1, g1 with
  | .d (.int k), f1, g1 =>
    cases f1
    exact ⟨k, rfl, q _ G1 H1 p1 h1 e1 g1⟩
def cutD (xs : List D) (lo hi : Option Int) : List D := (xs.drop (HT.sIx xs.length 0 lo)).take (HT.sIx xs.length xs.length hi - HT.sIx xs.length 0 lo)
theorem we_slice {tl th : TO} (ha : WE c ta ds pl (isD fun x p1 => ∃ xs, x = .list xs ∧ WO c tl ds p1 fun lo p2 => WO c th ds p2 fun hi p3 => Φ (.d (.list (cutD xs lo hi))) p3)) : WE c (tSl (rSlL K) ta tl th) ds pl Φ := fun G σ H hs Q q =>
  ha G σ H hs _ fun v G1 H1 w p1 h1 e1 f1 g1 => by
    match w, f1, g1 with
    | .d x, f1, ⟨xs, ex, g1⟩ =>
      subst ex
      refine g1 G1 σ H1 h1 _ fun lo G2 H2 p2 h2 e2 g2 => g2 G2 σ H2 h2 _ fun hi G3 H3 p3 h3 e3 g3 => ?_
      cases f1 with
      | lst a b =>
        refine ⟨_, _, rfl, SqL.of (h3.sub _ _ (e3 _ _ (e2 _ _ a))), fun l hl => ?_⟩
        have n := h3.none_of hl
        exact q _ _ _ (.d _) p3 (h3.newD hl) ((e1.trans (e2.trans e3)).trans (Ex.new n.1)) (R.lst upd_same ((cutV_RA b lo hi).up ((e2.trans e3).trans (Ex.new n.1)))) g3

/-! ### comprehensions -/
def wipeD (ds : DS) : List Nat → DS
  | [] => ds
  | v :: vs => (wipeD ds vs).set v none
theorem HS.wipe1 (h : HS c G σ H ds pl) (i : Nat) : HS c G (σ.set i none) H (ds.set i none) pl := by
  refine ⟨h.sub, h.gh, h.gq, h.gn, h.keep, h.pl, h.pin, h.hid, by rw [List.length_set, List.length_set, h.len], fun j w' q => ?_, fun j k p xs ys q1 q2 q3 q4 => ?_⟩
  · by_cases e : i = j
    · subst e
      have hj : i < ds.length := by
        have := (List.getElem?_eq_some_iff.mp q).1
        rw [List.length_set] at this
        exact this
      rw [List.getElem?_set_self hj] at q
      cases q
    · rw [List.getElem?_set_ne e] at q
      obtain ⟨v', e1, e2⟩ := h.slots j w' q
      exact ⟨v', by rw [List.getElem?_set_ne e]; exact e1, e2⟩
  · have go : ∀ {m : Nat} {z : V}, (σ.set i none)[m]? = some (some z) → σ[m]? = some (some z) ∧ i ≠ m := fun {m z} q => by
      by_cases e : i = m
      · subst e
        have hj : i < σ.length := by
          have := (List.getElem?_eq_some_iff.mp q).1
          rw [List.length_set] at this
          exact this
        rw [List.getElem?_set_self hj] at q
        cases q
      · rw [List.getElem?_set_ne e] at q
        exact ⟨q, e⟩
    obtain ⟨a1, b1⟩ := go q3
    obtain ⟨a2, b2⟩ := go q4
    rw [List.getElem?_set_ne b1] at q1
    rw [List.getElem?_set_ne b2] at q2
    exact h.own j k p xs ys q1 q2 a1 a2
theorem HS.wipe (h : HS c G σ H ds pl) : ∀ vs : List Nat, HS c G (L2.wipe σ vs) H (wipeD ds vs) pl
  | [] => h
  | v :: vs => (HS.wipe h vs).wipe1 v
/-- with one more object pinned -/
def Cn.with (c : Cn) (Dl : Addr) (o : HO) : Cn := { c with pin := fun a => if a = Dl then some o else c.pin a }
structure DF (c : Cn) (σ : L2.St) (ds : DS) (Dl : Addr) : Prop where
  h0 : c.H0 Dl = none
  pin : c.pin Dl = none
  pool : c.pool ≠ some Dl
  hd : ¬ c.hd Dl
  ne : ∀ (i : Nat) (xs : List D) (p : Addr), ds[i]? = some (some (W.o xs)) → σ[i]? = some (some (.ref p)) → p ≠ Dl
theorem with_at {Dl : Addr} {o : HO} : (c.with Dl o).pin Dl = some o := if_pos rfl
theorem with_ne {Dl a : Addr} {o : HO} (h : a ≠ Dl) : (c.with Dl o).pin a = c.pin a := if_neg h
theorem HS.to_with (h : HS c G σ H ds pl) {Dl : Addr} {o : HO} (f : DF c σ ds Dl) (hD : H Dl = some o) (gD : G Dl = none) : HS (c.with Dl o) G σ H ds pl := by
  refine ⟨h.sub, h.gh, h.gq, fun a u q => ?_, h.keep, fun p z => ?_, fun a u q => ?_, h.hid, h.len, fun i w q => ?_, h.own⟩
  · by_cases e : a = Dl
    · subst e; exact gD
    · rw [with_ne e] at q; exact h.gn a u q
  · obtain ⟨b1, b2, b3⟩ := h.pl p z
    exact ⟨b1, by rw [with_ne (fun e : p = Dl => f.pool (e ▸ z))]; exact b2, b3⟩
  · by_cases e : a = Dl
    · subst e; rw [with_at] at q; cases q; exact hD
    · rw [with_ne e] at q; exact h.pin a u q
  · obtain ⟨v, e1, e2⟩ := h.slots i w q
    refine ⟨v, e1, ?_⟩
    cases w with
    | d x => exact e2
    | v x => exact e2
    | o xs =>
      obtain ⟨p, vs, rfl, a1, a2, a3, a4, a5, a6, a7⟩ := e2
      exact ⟨p, vs, rfl, a1, a2, a3, a4, by rw [with_ne (f.ne i xs p q e1)]; exact a5, a6, a7⟩
theorem HS.push (h : HS c G σ H ds pl) {Dl : Addr} {o : HO} (f : DF c σ ds Dl) (gD : G Dl = none) : HS c G σ (upd H Dl o) ds pl := by
  have ne : ∀ a, a ≠ Dl → (upd H Dl o) a = H a := fun a q => upd_ne q
  refine ⟨fun a u q => ?_, h.gh, h.gq, h.gn, fun a u q1 q2 => ?_, fun p z => ?_, fun a u q => ?_, fun a q => ?_, h.len, fun i w q => ?_, h.own⟩
  · rw [ne a (fun e => by rw [e, gD] at q; cases q)]; exact h.sub a u q
  · rw [ne a (fun e => by rw [e, f.h0] at q2; cases q2)]; exact h.keep a u q1 q2
  · obtain ⟨b1, b2, vs, b3, b4⟩ := h.pl p z
    exact ⟨b1, b2, vs, by rw [ne p (fun e => f.pool (e ▸ z))]; exact b3, b4⟩
  · rw [ne a (fun e => by rw [e, f.pin] at q; cases q)]; exact h.pin a u q
  · rw [ne a (fun e => f.hd (e ▸ q))]; exact h.hid a q
  · obtain ⟨v, e1, e2⟩ := h.slots i w q
    refine ⟨v, e1, ?_⟩
    cases w with
    | d x => exact e2
    | v x => exact e2
    | o xs =>
      obtain ⟨p, vs, rfl, a1, a2⟩ := e2
      exact ⟨p, vs, rfl, by rw [ne p (f.ne i xs p q e1)]; exact a1, a2⟩
/-- the block's end: back to the slots ahead of it -/
theorem HS.back (h : HS c G σ H ds pl) {Dl : Addr} {o : HO} {G3 H3 : Hp} {σ2 : L2.St} {ds2 : DS} {p3 : List D} (f : DF c σ ds Dl) (h3 : HS (c.with Dl o) G3 σ2 H3 ds2 p3) (e : Ex G G3)
    (ho : ∀ (i : Nat) (xs : List D), ds[i]? = some (some (W.o xs)) → ds2[i]? = some (some (W.o xs)) ∧ σ2[i]? = σ[i]?) : HS c G3 σ H3 ds p3 := by
  refine ⟨h3.sub, h3.gh, h3.gq, fun a u q => ?_, h3.keep, fun p z => ?_, fun a u q => ?_, h3.hid, h.len, fun i w q => ?_, h.own⟩
  · refine h3.gn a u ?_
    rw [with_ne (fun e => by rw [e, f.pin] at q; cases q)]; exact q
  · obtain ⟨b1, b2, b3⟩ := h3.pl p z
    rw [with_ne (fun e : p = Dl => f.pool (e ▸ z))] at b2
    exact ⟨b1, b2, b3⟩
  · refine h3.pin a u ?_
    rw [with_ne (fun e => by rw [e, f.pin] at q; cases q)]; exact q
  · obtain ⟨v, e1, e2⟩ := h.slots i w q
    refine ⟨v, e1, ?_⟩
    cases w with
    | d x => exact R.up e2 e
    | v x => exact e2
    | o xs =>
      obtain ⟨k1, k2⟩ := ho i xs q
      obtain ⟨v', d1, p, us, d2, d3, d4, d5, d6, d7, d8, d9⟩ := h3.slots i _ k1
      have ev : v' = v := by rw [k2, e1] at d1; exact (Option.some.inj (Option.some.inj d1)).symm
      subst ev
      subst d2
      rw [with_ne (f.ne i xs p q e1)] at d7
      exact ⟨p, us, rfl, d3, d4, d5, d6, d7, d8, d9⟩
def PvC (c : Cn) (σ : L2.St) (ds : DS) (G1 : Hp) (Dl : Addr) (J : Nat → List D → List D → Prop) (i : Nat) (H' : Hp) : Prop :=
  ∃ G' pl' acc us, HS c G' σ H' ds pl' ∧ Ex G1 G' ∧ H' Dl = some (.lst us) ∧ RA G' us acc ∧ G' Dl = none ∧ J i acc pl'
theorem wipe_other {α : Type} {l : List (Option α)} {i : Nat} : ∀ {vs : List Nat}, i ∉ vs → ∀ {f : List Nat → List (Option α)}, (f [] = l) → (∀ v r, f (v :: r) = (f r).set v none) → (f vs)[i]? = l[i]?
  | [], _, f, h0, _ => by rw [h0]
  | v :: vs, hn, f, h0, h1 => by
    rw [h1, List.getElem?_set_ne (fun e : v = i => hn (e ▸ List.mem_cons_self))]
    exact wipe_other (fun q => hn (List.mem_cons_of_mem _ q)) h0 h1
theorem wipe_ne {σ : L2.St} {i : Nat} {vs : List Nat} (h : i ∉ vs) : (L2.wipe σ vs)[i]? = σ[i]? := wipe_other h (f := fun vs => L2.wipe σ vs) rfl fun _ _ => rfl
theorem wipeD_ne {ds : DS} {i : Nat} {vs : List Nat} (h : i ∉ vs) : (wipeD ds vs)[i]? = ds[i]? := wipe_other h (f := fun vs => wipeD ds vs) rfl fun _ _ => rfl
section
variable {tt : TT} {j : Nat}
theorem lc_turnD (J : Nat → List D → List D → Prop) {G1 : Hp} {Dl : Addr} {i : Nat} {v : V} {x : D} {H' : Hp} (f : DF c σ ds Dl) (hj : ∀ (xs : List D), ds[j]? ≠ some (some (W.o xs))) (p : PvC c σ ds G1 Dl J i H') (hx : ∀ G', Ex G1 G' → R G' v x)
    (user : ∀ acc pl', J i acc pl' → ∀ pin, WT { c with pin := pin } tt ((wipeD ds [j]).set j (some (.d x))) pl' fun b p2 => if b = true then WE { c with pin := pin } te ((wipeD ds [j]).set j (some (.d x))) p2
      (isD fun y p3 => acc.length < sizeLine ∧ J (i + 1) (acc ++ [y]) p3) else J (i + 1) acc p2) :
    tt ((L2.wipe σ [j]).set j (some v)) H' fun b H3 => if b = true then te ((L2.wipe σ [j]).set j (some v)) H3 fun y H4 => ∃ acc, H4 Dl = some (.lst acc) ∧ acc.length < sizeLine ∧ PvC c σ ds G1 Dl J (i + 1) (upd H4 Dl (.lst (acc ++ [y]))) else PvC c σ ds G1 Dl J (i + 1) H3 := by
  obtain ⟨G', pl', acc, us, h, e1, hD, ra, gD, hJ⟩ := p
  have hw : HS c G' ((L2.wipe σ [j]).set j (some v)) H' ((wipeD ds [j]).set j (some (.d x))) pl' := (h.wipe [j]).set (w := .d x) (hx G' e1) fun xs z => by cases z
  have same : ∀ (i : Nat) (xs : List D), ds[i]? = some (some (W.o xs)) → ((wipeD ds [j]).set j (some (.d x)))[i]? = some (some (W.o xs)) ∧ ((L2.wipe σ [j]).set j (some v))[i]? = σ[i]? := fun i xs q => by
    have ne : j ≠ i := fun e => hj xs (e ▸ q)
    have nm : i ∉ [j] := fun z => ne (List.mem_singleton.mp z).symm
    rw [List.getElem?_set_ne ne, List.getElem?_set_ne ne, wipeD_ne nm, wipe_ne nm]
    exact ⟨q, rfl⟩
  have f2 : DF c ((L2.wipe σ [j]).set j (some v)) ((wipeD ds [j]).set j (some (.d x))) Dl := ⟨f.h0, f.pin, f.pool, f.hd, fun i xs p q1 q2 => by
    by_cases e : j = i
    · subst e
      have hlt : j < ((wipeD ds [j])).length := by
        have := (List.getElem?_eq_some_iff.mp q1).1
        rw [List.length_set] at this
        exact this
      rw [List.getElem?_set_self hlt] at q1
      cases q1
    · have nm : i ∉ [j] := fun z => e (List.mem_singleton.mp z).symm
      rw [List.getElem?_set_ne e, wipeD_ne nm] at q1
      rw [List.getElem?_set_ne e, wipe_ne nm] at q2
      exact f.ne i xs p q1 q2⟩
  refine user acc pl' hJ _ G' _ H' (hw.to_with f2 hD gD) _ fun b G2 H2 p2 h2 e2 g2 => ?_
  cases b with
  | true =>
    refine (show WE _ te _ p2 _ from g2) G2 _ H2 h2 _ fun y G3 H3 w p3 h3 e3 f3 g3 => ?_
    match w, f3, g3 with
    | .d z, f3, ⟨g3, g4⟩ =>
      have b3 := h.back f h3 (e2.trans e3) same
      have dD : G3 Dl = none := h3.gn Dl _ with_at
      exact ⟨us, h3.pin Dl _ with_at, by rw [ra.len]; exact g3, G3, p3, acc ++ [z], us ++ [y], b3.push f dD, e1.trans (e2.trans e3), upd_same, (ra.up (e2.trans e3)).app (.cons f3 .nil), dD, g4⟩
  | false =>
    exact ⟨G2, p2, acc, us, h.back f h2 e2 same, e1.trans e2, h2.pin Dl _ with_at, ra.up e2, h2.gn Dl _ with_at, g2⟩
theorem df_new {H1 : Hp} (h : HS c G σ H1 ds pl) {Dl : Addr} (hD : H1 Dl = none) : DF c σ ds Dl := by
  obtain ⟨n1, n2, n3, n4, n5⟩ := h.none_of hD
  refine ⟨n5, n3, n4, n2, fun i xs p q1 q2 e => ?_⟩
  obtain ⟨v, e1, p', us, rfl, b1, _⟩ := h.slots i _ q1
  rw [q2] at e1
  have ep : p = p' := V.ref.inj (Option.some.inj (Option.some.inj e1))
  rw [← ep, e, hD] at b1
  cases b1
theorem wipe_set (σ : L2.St) (j : Nat) (v : V) : L2.wipe ((L2.wipe σ [j]).set j (some v)) [j] = L2.wipe σ [j] := by
  show ((σ.set j none).set j (some v)).set j none = σ.set j none
  rw [List.set_set, List.set_set]
theorem pv_start (J : Nat → List D → List D → Prop) {G1 H1 : Hp} {p1 : List D} {Dl : Addr} (h : HS c G1 σ H1 ds p1) (hD : H1 Dl = none) (g : J 0 [] p1) : PvC c σ ds G1 Dl J 0 (upd H1 Dl (.lst [])) :=
  ⟨G1, p1, [], [], h.newH hD, Ex.refl _, upd_same, .nil, (h.none_of hD).1, g⟩
theorem pv_end {J : Nat → List D → List D → Prop} {G1 : Hp} {Dl : Addr} {n : Nat} {H' : Hp} {Q : VK} (f : DF c σ ds Dl) (p : PvC c σ ds G1 Dl J n H') (hq : ∀ acc pl', J n acc pl' → Φ (.d (.list acc)) pl')
    (q : ∀ v G' H' w pl', HS c G' σ H' ds pl' → Ex G1 G' → VW G' H' c v w → Φ w pl' → Q v H') : Q (.ref Dl) H' := by
  obtain ⟨G', pl', acc, us, h, e1, hD, ra, gD, hJ⟩ := p
  have s2 : Ex G' (upd G' Dl (.lst us)) := Ex.new gD
  refine q (.ref Dl) (upd G' Dl (.lst us)) H' (.d (.list acc)) pl' ⟨fun a o z => ?_, fun a z => ?_, fun a z => ?_, fun a o z => ?_, h.keep, fun p z => ?_, h.pin, h.hid, h.len, fun i w z => ?_, h.own⟩ (e1.trans s2) (R.lst upd_same (ra.up s2)) (hq acc pl' hJ)
  · by_cases y : a = Dl
    · subst y; rw [upd_same] at z; cases z; exact hD
    · rw [upd_ne y] at z; exact h.sub a o z
  · rw [upd_ne (fun y : a = Dl => f.hd (y ▸ z))]; exact h.gh a z
  · rw [upd_ne (fun y : a = Dl => f.pool (y ▸ z))]; exact h.gq a z
  · rw [upd_ne (fun y : a = Dl => by rw [y, f.pin] at z; cases z)]; exact h.gn a o z
  · obtain ⟨c1, c2, vs', c3, c4⟩ := h.pl p z
    exact ⟨c1, c2, vs', c3, c4.up s2⟩
  · obtain ⟨v, d1, d2⟩ := h.slots i w z
    refine ⟨v, d1, ?_⟩
    cases w with
    | d x => exact R.up d2 s2
    | v x => exact d2
    | o ys =>
      obtain ⟨q', us', rfl, k1, k2, k3, k4⟩ := d2
      exact ⟨q', us', rfl, k1, k2.up s2, by rw [upd_ne (f.ne i ys q' z d1)]; exact k3, k4⟩
/-- over a list -/
theorem we_lcL {tl : TE} (J : Nat → List D → List D → Prop) (xs : List D) (hj : ∀ (xs : List D), ds[j]? ≠ some (some (W.o xs))) (h : WE c tl ds pl (isD fun d p1 => d = .list xs ∧ J 0 [] p1))
    (user : ∀ (i : Nat) x acc pl', xs[i]? = some x → J i acc pl' → ∀ pin, WT { c with pin := pin } tt ((wipeD ds [j]).set j (some (.d x))) pl' fun b p2 => if b = true then WE { c with pin := pin } te ((wipeD ds [j]).set j (some (.d x))) p2
      (isD fun y p3 => acc.length < sizeLine ∧ J (i + 1) (acc ++ [y]) p3) else J (i + 1) acc p2)
    (hq : ∀ acc pl', J xs.length acc pl' → Φ (.d (.list acc)) pl') : WE c (tLc (iList K tl) (gName j) tt te [j]) ds pl Φ := fun G σ H h0 Q q => h G σ H h0 _ fun v G1 H1 w p1 h1 e1 f1 g1 => by
  match w, f1, g1 with
  | .d d, f1, ⟨ed, g1⟩ =>
    subst ed
    cases f1 with
    | @lst a vs _ a1 b1 =>
    refine ⟨a, rfl, ⟨vs, SqL.of (h1.sub _ _ a1)⟩, fun Dl hD => ?_⟩
    have f := df_new h1 hD
    refine lc_list (K := K) (a := a) (xs := vs) (PvC c σ ds G1 Dl J) (pv_start J h1 hD g1) ?_ ?_ ?_
    · rintro i H' _ ⟨G', pl', acc, us, h2, e2, _⟩
      exact SqL.of (h2.sub _ _ (e2 _ _ a1))
    · intro i x H' hx p
      obtain ⟨d, hd1, hd2⟩ := b1.get' hx
      exact ⟨wipe_set σ j x, lc_turnD J f hj p (fun G' e => R.up hd2 e) fun acc pl' hJ pin => user i d acc pl' hd1 hJ pin⟩
    · intro H' p
      rw [b1.len] at p
      exact pv_end f p hq fun v G' H' w pl' h2 e2 f2 g2 => q v G' H' w pl' h2 (e1.trans e2) f2 g2
/-- over a tuple -/
theorem we_lcT {tl : TE} (J : Nat → List D → List D → Prop) (xs : List D) (hj : ∀ (xs : List D), ds[j]? ≠ some (some (W.o xs))) (h : WE c tl ds pl (isD fun d p1 => d = .tuple xs ∧ J 0 [] p1))
    (user : ∀ (i : Nat) x acc pl', xs[i]? = some x → J i acc pl' → ∀ pin, WT { c with pin := pin } tt ((wipeD ds [j]).set j (some (.d x))) pl' fun b p2 => if b = true then WE { c with pin := pin } te ((wipeD ds [j]).set j (some (.d x))) p2
      (isD fun y p3 => acc.length < sizeLine ∧ J (i + 1) (acc ++ [y]) p3) else J (i + 1) acc p2)
    (hq : ∀ acc pl', J xs.length acc pl' → Φ (.d (.list acc)) pl') : WE c (tLc (iTup K tl) (gName j) tt te [j]) ds pl Φ := fun G σ H h0 Q q => h G σ H h0 _ fun v G1 H1 w p1 h1 e1 f1 g1 => by
  match w, f1, g1 with
  | .d d, f1, ⟨ed, g1⟩ =>
    subst ed
    cases f1 with
    | @tup a vs _ a1 b1 =>
    refine ⟨a, rfl, ⟨vs, SqT.of (h1.sub _ _ a1)⟩, fun Dl hD => ?_⟩
    have f := df_new h1 hD
    refine lc_tup (K := K) (a := a) (xs := vs) (PvC c σ ds G1 Dl J) (pv_start J h1 hD g1) ?_ ?_ ?_
    · rintro i H' _ ⟨G', pl', acc, us, h2, e2, _⟩
      exact SqT.of (h2.sub _ _ (e2 _ _ a1))
    · intro i x H' hx p
      obtain ⟨d, hd1, hd2⟩ := b1.get' hx
      exact ⟨wipe_set σ j x, lc_turnD J f hj p (fun G' e => R.up hd2 e) fun acc pl' hJ pin => user i d acc pl' hd1 hJ pin⟩
    · intro H' p
      rw [b1.len] at p
      exact pv_end f p hq fun v G' H' w pl' h2 e2 f2 g2 => q v G' H' w pl' h2 (e1.trans e2) f2 g2
/-- over range(n) -/
theorem we_lcR {tr : TA} (J : Nat → List D → List D → Prop) (n : Nat) (hj : ∀ (xs : List D), ds[j]? ≠ some (some (W.o xs))) (h : WA c tr ds pl fun ys p1 => ∃ k : Int, ys = [.int k] ∧ k.toNat = n ∧ -(2 ^ 62) ≤ k ∧ k < 2 ^ 62 ∧ J 0 [] p1)
    (user : ∀ (i : Nat) acc pl', i < n → J i acc pl' → ∀ pin, WT { c with pin := pin } tt ((wipeD ds [j]).set j (some (.d (.int i)))) pl' fun b p2 => if b = true then WE { c with pin := pin } te ((wipeD ds [j]).set j (some (.d (.int i)))) p2
      (isD fun y p3 => acc.length < sizeLine ∧ J (i + 1) (acc ++ [y]) p3) else J (i + 1) acc p2)
    (hq : ∀ acc pl', J n acc pl' → Φ (.d (.list acc)) pl') : WE c (tLc (iRng1 tr) (gName j) tt te [j]) ds pl Φ := fun G σ H h0 Q q => h G σ H h0 _ fun vs G1 H1 xs p1 h1 e1 f1 ⟨k, e, en, b1, b2, g1⟩ => by
  subst e en
  cases f1 with
  | cons r1 b =>
    cases b
    cases r1
    refine ⟨k, rfl, b1, b2, fun Dl hD => ?_⟩
    have f := df_new h1 hD
    refine lc_range (lo := 0) (n := k.toNat) (PvC c σ ds G1 Dl J) (pv_start J h1 hD g1) ?_ ?_
    · intro i H' hi p
      have e0 : (0 : Int) + (i : Int) = (i : Int) := Int.zero_add _
      rw [e0]
      exact ⟨wipe_set σ j _, lc_turnD J f hj p (fun G' e => R.int _) fun acc pl' hJ pin => user i acc pl' hi hJ pin⟩
    · intro H' p
      exact pv_end f p hq fun v G' H' w pl' h2 e2 f2 g2 => q v G' H' w pl' h2 (e1.trans e2) f2 g2
end
end

/-! ### defs whole -/
section
variable {P : Program} {w : World} {K : PySem.W.Frag} {mg : Str → Option Value} {base : Heap} {k : Nat} {f : Addr} {fd : FuncData} {ps : List Str}
def slotsD (N : List Str) (ds : List D) : DS := ds.map (fun x => some (W.d x)) ++ List.replicate (N.length - ds.length) none
theorem hs_start {G H : Hp} {vs : List V} {ds : List D} {N : List Str} (s : Ex G H) (r : RA G vs ds) : HS ⟨H, fun a => G a = none ∧ ∃ o, H a = some o, none, fun _ => none⟩ G (L2.start N vs) H (slotsD N ds) [] := by
  refine ⟨s, fun a q => q.1, fun a q => (by cases q), fun a o q => (by cases q), fun a o _ q => q, fun p q => (by cases q), fun a o q => (by cases q), fun a q => q.2, ?_, fun i w q => ?_, fun i j p xs ys q1 => ?_⟩
  · unfold L2.start slotsD
    simp only [List.length_append, List.length_map, List.length_replicate, r.len]
  · unfold slotsD at q
    by_cases hi : i < ds.length
    · rw [List.getElem?_append_left (by rw [List.length_map]; exact hi), List.getElem?_map] at q
      obtain ⟨v, e1, e2⟩ := r.get (i := i) (d := ds[i]) (List.getElem?_eq_getElem hi)
      rw [List.getElem?_eq_getElem hi] at q
      cases q
      refine ⟨v, ?_, e2⟩
      unfold L2.start
      rw [List.getElem?_append_left (by rw [List.length_map, r.len]; exact hi), List.getElem?_map, e1]
      rfl
    · rw [List.getElem?_append_right (by rw [List.length_map]; omega), List.getElem?_replicate] at q
      split at q <;> cases q
  · unfold slotsD at q1
    by_cases hi : i < ds.length
    · rw [List.getElem?_append_left (by rw [List.length_map]; exact hi), List.getElem?_map, List.getElem?_eq_getElem hi] at q1
      cases q1
    · rw [List.getElem?_append_right (by rw [List.length_map]; omega), List.getElem?_replicate] at q1
      split at q1 <;> cases q1
/-- what a def hands back -/
abbrev rtD (k : D → Prop) : W → List D → Prop := fun w _ => match w with
  | .d x => k x
  | _ => False
theorem fgP {F : List D → (D → Prop) → Prop} {x qual : Str} {st : Stmt} {N : List Str} (Fn : Fun K x qual st f fd) (S : FnScope N ps (defScope st)) (len : ∀ ds k, F ds k → ds.length = ps.length)
    (go : ∀ (cdv : Value) (B : Around) (fr : List Env) (s : Shared) (H : Hp) (E : XK), B.guards = some [] → Room k (B.deeper (envOfC qual (defScope st) s.heap.objs.size f cdv)) → ∃ t, PSs (cxOf CX0 P w K mg base N qual (defScope st) f cdv B fr s H E).nox (defBody st) t ∧ ∀ c ds (k : D → Prop), c.pool = none → F ds k → WS c t (slotsD N ds) [] ⟨fun _ _ => k .none, rtD k, fun _ _ => False, fun _ _ => False⟩) : FG P w K mg base (k + 1) f fd ps (spP F) := by
  refine fg_of Fn S (fun vs H Q E h => ?_) fun cdv B fr s H vs Q E hg hr h => ?_
  · obtain ⟨G, ds, _, r, h⟩ := h
    rw [r.len]
    exact len _ _ h
  · obtain ⟨t, der, body⟩ := go cdv B fr s H E hg hr
    refine ⟨t, der, ?_⟩
    obtain ⟨G, ds, s0, r, h⟩ := h
    refine body ⟨H, fun a => G a = none ∧ ∃ o, H a = some o, none, fun _ => none⟩ ds _ rfl h G _ H (hs_start s0 r) _ ⟨?_, ?_, ?_, ?_⟩
    · exact fun G' σ' H' ds' pl' h' e q => q _ G' H' (fun a o z => h'.keep a o (fun y => by cases y) z) h'.sub e (fun a o z1 z2 => h'.gh a ⟨z2, o, z1⟩) R.non
    · intro v G' σ' H' ds' w' pl' h' e q g
      match w', q, g with
      | .d y, q, g => exact g v G' H' (fun a o z => h'.keep a o (fun y => by cases y) z) h'.sub e (fun a o z1 z2 => h'.gh a ⟨z2, o, z1⟩) q
    · exact fun G' σ' H' ds' pl' h' e q => q.elim
    · exact fun G' σ' H' ds' pl' h' e q => q.elim
/-- a def that makes a new list -/
abbrev rtN (k : List D → Prop) : W → List D → Prop := fun w _ => match w with
  | .o x => k x
  | _ => False
theorem fgN {F : List D → (List D → Prop) → Prop} {x qual : Str} {st : Stmt} {N : List Str} (Fn : Fun K x qual st f fd) (S : FnScope N ps (defScope st)) (len : ∀ ds k, F ds k → ds.length = ps.length)
    (go : ∀ (cdv : Value) (B : Around) (fr : List Env) (s : Shared) (H : Hp) (E : XK), B.guards = some [] → Room k (B.deeper (envOfC qual (defScope st) s.heap.objs.size f cdv)) → ∃ t, PSs (cxOf CX0 P w K mg base N qual (defScope st) f cdv B fr s H E).nox (defBody st) t ∧ ∀ c ds (k : List D → Prop), c.pool = none → F ds k → WS c t (slotsD N ds) [] ⟨fun _ _ => False, rtN k, fun _ _ => False, fun _ _ => False⟩) : FG P w K mg base (k + 1) f fd ps (spN F) := by
  refine fg_of Fn S (fun vs H Q E h => ?_) fun cdv B fr s H vs Q E hg hr h => ?_
  · obtain ⟨G, ds, _, r, h⟩ := h
    rw [r.len]
    exact len _ _ h
  · obtain ⟨t, der, body⟩ := go cdv B fr s H E hg hr
    refine ⟨t, der, ?_⟩
    obtain ⟨G, ds, s0, r, h⟩ := h
    refine body ⟨H, fun a => G a = none ∧ ∃ o, H a = some o, none, fun _ => none⟩ ds _ rfl h G _ H (hs_start s0 r) _ ⟨?_, ?_, ?_, ?_⟩
    · exact fun G' σ' H' ds' pl' h' e q => q.elim
    · intro v G' σ' H' ds' w' pl' h' e q g
      match w', q, g with
      | .o y, ⟨p, us, ev, a1, a2, a3, a4, a5, a6, a7⟩, g =>
        subst ev
        exact g p us G' H' (fun a o z => h'.keep a o (fun y => by cases y) z) h'.sub e (fun a o z1 z2 => h'.gh a ⟨z2, o, z1⟩) a4 a3 a1 a2
    · exact fun G' σ' H' ds' pl' h' e q => q.elim
    · exact fun G' σ' H' ds' pl' h' e q => q.elim
def slotsO (N : List Str) (p : Addr) (ds : List D) : DS := some (.v (.ref p)) :: (ds.map (fun x => some (W.d x)) ++ List.replicate (N.length - (ds.length + 1)) none)
theorem hs_startO {G H : Hp} {p : Addr} {us vs : List V} {pl ds : List D} {N : List Str} (s : Ex G H) (gp : G p = none) (hp : H p = some (.lst us)) (ru : RA G us pl) (r : RA G vs ds) :
    HS ⟨H, fun a => (G a = none ∧ ∃ o, H a = some o) ∧ a ≠ p, some p, fun _ => none⟩ G (L2.start N (.ref p :: vs)) H (slotsO N p ds) pl := by
  refine ⟨s, fun a q => q.1.1, fun a q => (by cases q; exact gp), fun a o q => (by cases q), fun a o _ q => q, fun q z => ?_, fun a o q => (by cases q), fun a q => q.1.2, ?_, fun i w q => ?_, fun i j p xs ys q1 => ?_⟩
  · cases z
    exact ⟨fun y => y.2 rfl, rfl, us, hp, ru⟩
  · unfold L2.start slotsO
    simp only [List.length_append, List.length_map, List.length_replicate, List.length_cons, r.len]
    omega
  · unfold slotsO at q
    cases i with
    | zero =>
      cases q
      exact ⟨_, rfl, rfl⟩
    | succ i =>
      rw [List.getElem?_cons_succ] at q
      by_cases hi : i < ds.length
      · rw [List.getElem?_append_left (by rw [List.length_map]; exact hi), List.getElem?_map] at q
        obtain ⟨v, e1, e2⟩ := r.get (i := i) (d := ds[i]) (List.getElem?_eq_getElem hi)
        rw [List.getElem?_eq_getElem hi] at q
        cases q
        refine ⟨v, ?_, e2⟩
        unfold L2.start
        rw [List.map_cons, List.cons_append, List.getElem?_cons_succ, List.getElem?_append_left (by rw [List.length_map, r.len]; exact hi), List.getElem?_map, e1]
        rfl
      · rw [List.getElem?_append_right (by rw [List.length_map]; omega), List.getElem?_replicate] at q
        split at q <;> cases q
  · unfold slotsO at q1
    cases i with
    | zero => cases q1
    | succ i =>
      rw [List.getElem?_cons_succ] at q1
      by_cases hi : i < ds.length
      · rw [List.getElem?_append_left (by rw [List.length_map]; exact hi), List.getElem?_map, List.getElem?_eq_getElem hi] at q1
        cases q1
      · rw [List.getElem?_append_right (by rw [List.length_map]; omega), List.getElem?_replicate] at q1
        split at q1 <;> cases q1
abbrev rtO (k : D → List D → Prop) : W → List D → Prop := fun w pl => match w with
  | .d x => k x pl
  | _ => False
theorem fgO {F : List D → List D → (D → List D → Prop) → Prop} {x qual : Str} {st : Stmt} {N : List Str} (Fn : Fun K x qual st f fd) (S : FnScope N ps (defScope st)) (len : ∀ pl ds k, F pl ds k → ds.length + 1 = ps.length)
    (go : ∀ (cdv : Value) (B : Around) (fr : List Env) (s : Shared) (H : Hp) (E : XK), B.guards = some [] → Room k (B.deeper (envOfC qual (defScope st) s.heap.objs.size f cdv)) → ∃ t, PSs (cxOf CX0 P w K mg base N qual (defScope st) f cdv B fr s H E).nox (defBody st) t ∧ ∀ c p pl ds (k : D → List D → Prop), c.pool = some p → F pl ds k → WS c t (slotsO N p ds) pl ⟨fun _ pl' => k .none pl', rtO k, fun _ _ => False, fun _ _ => False⟩) : FG P w K mg base (k + 1) f fd ps (spO F) := by
  refine fg_of Fn S (fun vs H Q E h => ?_) fun cdv B fr s H vs Q E hg hr h => ?_
  · obtain ⟨G, p, vs', us, pl, ds, rfl, _, _, _, _, r, h⟩ := h
    rw [List.length_cons, r.len]
    exact len _ _ _ h
  · obtain ⟨t, der, body⟩ := go cdv B fr s H E hg hr
    refine ⟨t, der, ?_⟩
    obtain ⟨G, p, vs', us, pl, ds, rfl, s0, gp, hp, ru, r, h⟩ := h
    have fin : ∀ {G' σ' H' ds' pl'}, HS ⟨H, fun a => (G a = none ∧ ∃ o, H a = some o) ∧ a ≠ p, some p, fun _ => none⟩ G' σ' H' ds' pl' → ∃ us', (∀ a o, a ≠ p → H a = some o → H' a = some o) ∧ Ex G' H' ∧ (∀ a o, H a = some o → G a = none → G' a = none) ∧ H' p = some (.lst us') ∧ RA G' us' pl' := by
      intro G' σ' H' ds' pl' h'
      obtain ⟨_, _, us', b1, b2⟩ := h'.pl p rfl
      refine ⟨us', fun a o z z2 => h'.keep a o (fun y => z (Option.some.inj y).symm) z2, h'.sub, fun a o z1 z2 => ?_, b1, b2⟩
      by_cases e : a = p
      · rw [e]; exact h'.gq p rfl
      · exact h'.gh a ⟨⟨z2, o, z1⟩, e⟩
    refine body ⟨H, fun a => (G a = none ∧ ∃ o, H a = some o) ∧ a ≠ p, some p, fun _ => none⟩ p pl ds _ rfl h G _ H (hs_startO s0 gp hp ru r) _ ⟨?_, ?_, ?_, ?_⟩
    · intro G' σ' H' ds' pl' h' e q
      obtain ⟨us', a1, a2, a3, a4, a5⟩ := fin h'
      exact q _ G' H' us' a1 a2 e a3 a4 a5 R.non
    · intro v G' σ' H' ds' w' pl' h' e q g
      obtain ⟨us', a1, a2, a3, a4, a5⟩ := fin h'
      match w', q, g with
      | .d y, q, g => exact g v G' H' us' a1 a2 e a3 a4 a5 q
    · exact fun G' σ' H' ds' pl' h' e q => q.elim
    · exact fun G' σ' H' ds' pl' h' e q => q.elim
end
end PD

/-! PD5: enumerate over a tuple; calls with keywords; more operations -/
namespace PD
open PySem PySem.Spec PyProof.Rows L2 Evl
open AutoSeq1 (wpAny_loadPart')

theorem meets_enum_tup (l : Addr) (o : Obj) (items : Array Value) :
    Meets (Builtin.«enumerate.__new__» ⟨[.type "enumerate", .ref l], []⟩) (fun _ Rr s => (s.heap.get? l = some o ∧ o.cls = .type "tuple" ∧ s.heap.IsTuple l items) ∧
      Rr (.ok (.ret (.ref (s.heap.push { cls := .type "tuple_iterator", data := .fields #[.ref l, .int 0 0] }).objs.size)))
        { s with heap := (s.heap.push { cls := .type "tuple_iterator", data := .fields #[.ref l, .int 0 0] }).push { cls := .type "enumerate", data := .fields #[.none, .bool false, .ref s.heap.objs.size, rawInt 0, .none, .none] } }) := by
  refine .of_wp ?_
  intro prog w A Rr s h
  obtain ⟨hp, g, d, tk, os⟩ := s
  obtain ⟨⟨hl, hc, hL⟩, h⟩ := h
  have hsub := PySem.sub_enumerate
  have hL2 : Heap.IsTuple (Shared.heap ⟨hp, g, d, tk, os⟩) l items := hL
  wp_walk using wpAny_loadPart' hl
  refine wpAny_stack_any fun st => wpAny_pure ?_
  split
  next c _ _ _ _ _ =>
    cases (c == Value.type "enumerate") <;> (wp_walk using wpAny_loadPart' hl, wpAny_pyIter_tuple hL2; exact ⟨_, rfl, h⟩)
  next => wp_walk using wpAny_loadPart' hl, wpAny_pyIter_tuple hL2; exact ⟨_, rfl, h⟩
section
variable {prog : Program} {w : World} {A : Around} {E : Value → Shared → Prop} {s : Shared}
theorem call_enum_tup {l : Addr} {items : Array Value} {Q : Value → Shared → Prop} (hL : s.heap.IsTuple l items)
    (h : ∀ h', IsEnum h' (s.heap.objs.size + 1) s.heap.objs.size 0 .none → h'.IsTupleIter s.heap.objs.size l 0 → (∀ b o, s.heap.get? b = some o → h'.get? b = some o) → Q (.ref (s.heap.objs.size + 1)) { s with heap := h' }) :
    wpAny (model prog w) A (call (.type "enumerate") [.ref l]) Q E s := by
  obtain ⟨o, hl, hc, hd⟩ := id hL
  refine callType_new F.called_enumerate (by decide) (F.typeCall_enumerate_1 _) (F.newCall_enumerate_1 _) (fun obj => F.args_object_init_2 obj _) F.entry_enumerate_new (meets_enum_tup l o items) ?_
  refine ⟨⟨hl, hc, hL⟩, ?_⟩
  have hz := Heap.size_push s.heap { cls := .type "tuple_iterator", data := .fields #[.ref l, .int 0 0] }
  have new := Heap.get?_push_size (s.heap.push { cls := .type "tuple_iterator", data := .fields #[.ref l, .int 0 0] }) (o := { cls := .type "enumerate", data := .fields #[.none, .bool false, .ref s.heap.objs.size, rawInt 0, .none, .none] }) rfl
  rw [hz] at new ⊢
  refine ⟨⟨_, new, rfl⟩, h _ new ⟨_, Heap.get?_push_of_some _ (Heap.get?_push_size _ rfl), rfl, rfl⟩ ?_⟩
  intro b ob x
  exact Heap.get?_push_of_some _ (Heap.get?_push_of_some _ x)
end
def IteT (K : PySem.W.Frag) (a : Addr) : It where
  go := fun i H => ∃ (xs : List V) (x : V), SqT K H a xs ∧ xs[i]? = some x
  yld := fun i H v H' => ∃ T x, v = .ref T ∧ H T = none ∧ H' = upd H T (.tup [.int (i : Nat), x]) ∧ ∀ xs, SqT K H a xs → xs[i]? = some x
  stop := fun i H => ∃ xs : List V, SqT K H a xs ∧ xs.length = i
theorem turn_enumT {P : Program} {w : World} {K : PySem.W.Frag} {elts : List Expr} {kk : Nat} {tpos : Pos} (a e it : Addr) (hai : a ≠ it) (hea : e ≠ a) :
    Turn P w K (.Tuple elts kk tpos) (IteT K a) [e, it] e (fun i h => (∃ old, IsEnum h e it ((i : Nat) : Int) old) ∧ h.IsTupleIter it a i ∧ e ≠ it) := by
  have two : ∀ b, b ∈ [e, it] → b = e ∨ b = it := fun b hb => by simpa using hb
  constructor
  case mem => simp
  case obj =>
    rintro i h ⟨⟨old, he⟩, ⟨o, ho, hc, hd⟩, _⟩ b hb
    rcases two b hb with z | z <;> subst z
    · exact ⟨_, he, fun v q => nomatch q⟩
    · exact ⟨o, ho, fun v q => by rw [hd] at q; cases q⟩
  case keep =>
    rintro i h h' ⟨⟨old, he⟩, hi, hne⟩ k
    exact ⟨⟨old, k e (by simp) _ he⟩, hi.at fun o q => k it (by simp) o q, hne⟩
  case item =>
    intro X hP hw hK hc i pins s σ H E I hf st hg
    subst hP hw hK
    obtain ⟨⟨old, he⟩, hit, hne⟩ := st
    obtain ⟨xs, x, hq, hx⟩ := hg
    obtain ⟨its, rv, p, hz⟩ := I.tuple hq
    obtain ⟨u, hu, ru⟩ := rv.get hx
    have hel : e < s.heap.objs.size := Heap.lt_size he
    have hil : it < s.heap.objs.size := by
      obtain ⟨_, q, _⟩ := hit
      exact Heap.lt_size q
    have Dr := Draws.tuple (prog := X.prog) (w := X.w) (A := X.A.in1) (I.ok.hd hc) it a hai its.toArray
    have lt : i < its.toArray.size := by
      have := (List.getElem?_eq_some_iff.mp hu).1
      simpa using this
    refine wpAny_pyNext_enum_itemD Dr he ⟨hit, p⟩ lt hne (by simp [hne, hea]) ?_
    intro y h' tk hy ho hst hT hsz hk
    have ey : y = u := by
      have hy' : its.toArray[i]? = some y := hy
      have hu' : its.toArray[i]? = some u := by simpa using hu
      rw [hu'] at hy'
      exact (Option.some.inj hy').symm
    subst ey
    refine ⟨_, rfl, wpAny_letOwnedTupleGo_enum (s := { s with heap := h', toks := tk + 1 }) ho fun h'' he' sb => ?_⟩
    have hT2 := (sb.2 _ (Nat.ne_of_gt hel)).trans hT
    have new : ObjOk X.prog X.w (upd H s.heap.objs.size (.tup [.int (i : Nat), x])) h'' s.heap.objs.size (.tup [.int (i : Nat), x]) :=
      ⟨by show 2 ≤ sizeLine; decide, [.int i tk, y], .cons ⟨_, rfl⟩ (.cons ru .nil), ⟨_, hT2, rfl, _, rfl⟩⟩
    have I1 : Inv X pins σ (upd H s.heap.objs.size (.tup [.int (i : Nat), x])) { s with heap := h'', toks := tk + 1 } := by
      refine I.turnedNew (ch := [e, it]) (fun b ob hb q => ?_) hf (Nat.le_refl _) new
      exact (sb.2 b (fun z => hb (by simp [z]))).trans (hk b ob (fun z => hb (by simp [z])) (fun z => hb (by simp [z])) q)
    refine ⟨.ref s.heap.objs.size, _, I1, rfl, ⟨_, x, rfl, I.hok.fresh (Nat.le_refl _), rfl, ?_⟩, ⟨⟨y, ?_⟩, hst.1.at fun o q => (sb.2 it (Ne.symm hne)).trans q, hne⟩, ?_⟩
    · intro ys hy2
      rw [I.tuple_inj hy2 hq]
      exact hx
    · rw [show ((i + 1 : Nat) : Int) = (i : Int) + 1 by omega]
      exact he'
    · intro b hb
      have hb' : b < s.heap.objs.size := by
        rcases two b hb with z | z <;> (rw [z]; assumption)
      rw [upd_ne (Nat.ne_of_lt hb')]
      exact (hf b hb).1
  case done =>
    intro X hP hw hK hc i pins s σ H E I hf st hg
    subst hP hw hK
    obtain ⟨⟨old, he⟩, hit, hne⟩ := st
    obtain ⟨xs, hq, hx⟩ := hg
    obtain ⟨its, rv, p, hz⟩ := I.tuple hq
    obtain ⟨f0, f1, f2, f3, f4, f5⟩ := hf it (by simp)
    have fin : ∀ h', Heap.ExtBut it s.heap h' → Inv X pins σ H { s with heap := h' } := fun h' eb => I.turned (t' := s.toks) (fun b o hb q => eb b o hb q) f0 f1 f3 f4 f5
    have Dr := Draws.tuple (prog := X.prog) (w := X.w) (A := X.A.in1) (I.ok.hd hc) it a hai its.toArray
    have ei : i = its.toArray.size := by
      have := rv.length
      simp
      omega
    rw [ei] at hit
    exact wpAny_pyNext_enum_endD Dr he ⟨hit, p⟩ fun h' eb => ⟨rfl, fin h' eb⟩
  case self => exact fun A i s Q E st h => let ⟨⟨_, he⟩, _⟩ := st; wpAny_pyIter_enum he h
def iEnumT (K : PySem.W.Frag) (ta : TA) : TI := fun σ H Rr => ta σ H fun vs H1 => ∃ a xs, vs = [.ref a] ∧ SqT K H1 a xs ∧ Rr (IteT K a) H1
theorem pi_enumT {X : Cx} {e : Expr} {ta : TA} {p pos tpos : Pos} {elts : List Expr} {kk : Nat} (hg : Gl X "enumerate") (hm : X.mg "enumerate" = none) (ha : PA X [e] ta) (hs : starEach [e] X.env = [(false, eval e X.env)] := by rfl) :
    PI X (.Tuple elts kk tpos) (.Call (.Name "enumerate" p) [e] [] pos) (iEnumT X.K ta) := by
  constructor
  intro pins s σ H Rr I h
  refine Call_ (ld_blt I hg hm boot_enumerate (PyProof.Rows.callWith_type1 (thn (ha.run pos pins s σ H _ I h) ?_) hs rfl))
  rintro us s1 ⟨vs, H1, I1, r1, a, xs, ex, hq, q⟩
  subst ex
  obtain ⟨u, eu, ru⟩ := vals1 r1
  subst eu
  have eu2 : u = .ref a := ru
  subst eu2
  obtain ⟨its, rv, pt, hz⟩ := I1.tuple hq
  have hlt : a < s1.heap.objs.size := by
    obtain ⟨o, ho, _⟩ := pt
    exact Heap.lt_size ho
  refine call_enum_tup pt fun h' he hit hk => wpAny_pyIter_enum he ?_
  have I2 : Inv X pins σ H1 { s1 with heap := h' } := I1.kept (t' := s1.toks) hk
  refine ⟨s1.heap.objs.size + 1, [s1.heap.objs.size + 1, s1.heap.objs.size], _, _, H1, rfl, I2, turn_enumT a (s1.heap.objs.size + 1) s1.heap.objs.size (Nat.ne_of_lt hlt) (Nat.ne_of_gt (Nat.lt_succ_of_lt hlt)), ⟨⟨.none, he⟩, hit, Nat.succ_ne_self _⟩, ?_, q⟩
  intro b hb
  have hle : s1.heap.objs.size ≤ b := by
    rcases (show b = s1.heap.objs.size + 1 ∨ b = s1.heap.objs.size by simpa using hb) with z | z
    · rw [z]; exact Nat.le_succ _
    · rw [z]; exact Nat.le_refl _
  exact I1.fpOk hle (I1.hok.fresh hle)
section
variable {c : Cn} {K : PySem.W.Frag} {ds : DS} {pl : List D} {tr : TA} {t : TS} {E : EE}
theorem sq_inj_of {G : Hp} {a : Addr} {vs : List V} (h : G a = some (.tup vs)) : SqT K G a vs := SqT.of h
/-- for i, x in enumerate(a tuple of data) -/
theorem ws_forET {j1 j2 : Nat} (I : Nat → DS → List D → Prop) (xs : List D) (h : WA c tr ds pl fun ys p1 => ys = [.tuple xs] ∧ I 0 ds p1)
    (hs : ∀ (i : Nat) x ds' pl', xs[i]? = some x → I i ds' pl' → WS c t ((ds'.set j1 (some (.d (.int i)))).set j2 (some (.d x))) pl' { nx := I (i + 1), ct := I (i + 1), bk := E.nx, rt := E.rt }) (hd : ∀ ds' pl', I xs.length ds' pl' → E.nx ds' pl') :
    WS c (tFor (iEnumT K tr) (gTup K 2 (gCons (gName j1) (gCons (gName j2) gNil))) t) ds pl E := fun G σ H h0 D' f => h G σ H h0 _ fun vs G1 H1 ys p1 h1 e1 f1 ⟨ey, g1⟩ => by
  subst ey
  obtain ⟨v, rfl, r⟩ := ra1 f1
  cases r with
  | @tup a us _ a1 b1 =>
  refine ⟨a, us, rfl, SqT.of (h1.sub _ _ a1), fun i m σ' H' => m = us.length - i ∧ i ≤ us.length ∧ ∃ G' ds' pl', HS c G' σ' H' ds' pl' ∧ Ex G1 G' ∧ I i ds' pl', ⟨us.length, by simp, Nat.zero_le _, G1, ds, p1, h1, Ex.refl _, g1⟩, ?_⟩
  rintro i m σ' H' ⟨rfl, hi, G', ds', pl', h2, e2, g2⟩
  have sq : SqT K H' a us := SqT.of (h2.sub _ _ (e2 _ _ a1))
  by_cases hlt : i < us.length
  · refine .inr ⟨⟨us, us[i], sq, by simp [hlt]⟩, fun σ3 H3 => ∃ G3 ds3 pl3, HS c G3 σ3 H3 ds3 pl3 ∧ Ex G1 G3 ∧ I (i + 1) ds3 pl3, fun σ3 H3 q => ⟨us.length - (i + 1), by omega, rfl, hlt, q⟩, ?_⟩
    rintro x H3 ⟨T, y, rfl, hT, rfl, hy⟩
    have hy2 := hy us sq
    obtain ⟨d, hd1, hd2⟩ := b1.get' hy2
    refine ⟨T, _, rfl, SqT.of upd_same, rfl, _, _, rfl, _, _, rfl, rfl, ?_⟩
    have n := h2.none_of hT
    have e3 : Ex G' (upd G' T (.tup [.int (i : Nat), y])) := Ex.new n.1
    have hN := ((h2.newD (o := .tup [.int (i : Nat), y]) hT).set (i := j1) (w := .d (.int i)) (R.int _) fun xs z => by cases z).set (i := j2) (w := .d d) (R.up hd2 (e2.trans e3)) fun xs z => by cases z
    refine hs i d ds' pl' hd1 g2 _ _ _ hN _ ⟨?_, ?_, ?_, ?_⟩
    · exact fun G4 σ4 H4 ds4 pl4 h4 e4 g4 => ⟨G4, ds4, pl4, h4, (e2.trans e3).trans e4, g4⟩
    · exact fun v G4 σ4 H4 ds4 w4 pl4 h4 e4 q4 g4 => f.rt v G4 σ4 H4 ds4 w4 pl4 h4 (e1.trans ((e2.trans e3).trans e4)) q4 g4
    · exact fun G4 σ4 H4 ds4 pl4 h4 e4 g4 => f.nx G4 σ4 H4 ds4 pl4 h4 (e1.trans ((e2.trans e3).trans e4)) g4
    · exact fun G4 σ4 H4 ds4 pl4 h4 e4 g4 => ⟨G4, ds4, pl4, h4, (e2.trans e3).trans e4, g4⟩
  · have ei : i = us.length := by omega
    subst ei
    rw [b1.len] at g2
    exact .inl ⟨⟨us, sq, rfl⟩, f.nx G' σ' H' ds' pl' h2 (e1.trans e2) (hd _ _ g2)⟩
/-- for i, x in enumerate(a list of data) -/
theorem ws_forEL {j1 j2 : Nat} (I : Nat → DS → List D → Prop) (xs : List D) (h : WA c tr ds pl fun ys p1 => ys = [.list xs] ∧ I 0 ds p1)
    (hs : ∀ (i : Nat) x ds' pl', xs[i]? = some x → I i ds' pl' → WS c t ((ds'.set j1 (some (.d (.int i)))).set j2 (some (.d x))) pl' { nx := I (i + 1), ct := I (i + 1), bk := E.nx, rt := E.rt }) (hd : ∀ ds' pl', I xs.length ds' pl' → E.nx ds' pl') :
    WS c (tFor (iEnum K tr) (gTup K 2 (gCons (gName j1) (gCons (gName j2) gNil))) t) ds pl E := fun G σ H h0 D' f => h G σ H h0 _ fun vs G1 H1 ys p1 h1 e1 f1 ⟨ey, g1⟩ => by
  subst ey
  obtain ⟨v, rfl, r⟩ := ra1 f1
  cases r with
  | @lst a us _ a1 b1 =>
  refine ⟨a, us, rfl, SqL.of (h1.sub _ _ a1), fun i m σ' H' => m = us.length - i ∧ i ≤ us.length ∧ ∃ G' ds' pl', HS c G' σ' H' ds' pl' ∧ Ex G1 G' ∧ I i ds' pl', ⟨us.length, by simp, Nat.zero_le _, G1, ds, p1, h1, Ex.refl _, g1⟩, ?_⟩
  rintro i m σ' H' ⟨rfl, hi, G', ds', pl', h2, e2, g2⟩
  have sq : SqL K H' a us := SqL.of (h2.sub _ _ (e2 _ _ a1))
  by_cases hlt : i < us.length
  · refine .inr ⟨⟨us, us[i], sq, by simp [hlt]⟩, fun σ3 H3 => ∃ G3 ds3 pl3, HS c G3 σ3 H3 ds3 pl3 ∧ Ex G1 G3 ∧ I (i + 1) ds3 pl3, fun σ3 H3 q => ⟨us.length - (i + 1), by omega, rfl, hlt, q⟩, ?_⟩
    rintro x H3 ⟨T, y, rfl, hT, rfl, hy⟩
    have hy2 := hy us sq
    obtain ⟨d, hd1, hd2⟩ := b1.get' hy2
    refine ⟨T, _, rfl, SqT.of upd_same, rfl, _, _, rfl, _, _, rfl, rfl, ?_⟩
    have n := h2.none_of hT
    have e3 : Ex G' (upd G' T (.tup [.int (i : Nat), y])) := Ex.new n.1
    have hN := ((h2.newD (o := .tup [.int (i : Nat), y]) hT).set (i := j1) (w := .d (.int i)) (R.int _) fun xs z => by cases z).set (i := j2) (w := .d d) (R.up hd2 (e2.trans e3)) fun xs z => by cases z
    refine hs i d ds' pl' hd1 g2 _ _ _ hN _ ⟨?_, ?_, ?_, ?_⟩
    · exact fun G4 σ4 H4 ds4 pl4 h4 e4 g4 => ⟨G4, ds4, pl4, h4, (e2.trans e3).trans e4, g4⟩
    · exact fun v G4 σ4 H4 ds4 w4 pl4 h4 e4 q4 g4 => f.rt v G4 σ4 H4 ds4 w4 pl4 h4 (e1.trans ((e2.trans e3).trans e4)) q4 g4
    · exact fun G4 σ4 H4 ds4 pl4 h4 e4 g4 => f.nx G4 σ4 H4 ds4 pl4 h4 (e1.trans ((e2.trans e3).trans e4)) g4
    · exact fun G4 σ4 H4 ds4 pl4 h4 e4 g4 => ⟨G4, ds4, pl4, h4, (e2.trans e3).trans e4, g4⟩
  · have ei : i = us.length := by omega
    subst ei
    rw [b1.len] at g2
    exact .inl ⟨⟨us, sq, Nat.le_refl _⟩, f.nx G' σ' H' ds' pl' h2 (e1.trans e2) (hd _ _ g2)⟩
end
end PD

/-! PD6: defs by name; operators of several kinds -/
namespace PD
open PySem PySem.Spec PyProof.Rows L2 Evl

/-- the def of this name as the top has left it -/
def Here (K : PySem.W.Frag) (mg : Str → Option Value) (name : Str) (st : Stmt) (ps : List Str) (f : Addr) (fd : FuncData) : Prop := Fun K name name st f fd ∧ mg name = some (.ref f) ∧ Binds K fd ps []
/-- the function object stands there -/
def At0 (K : PySem.W.Frag) (f : Addr) (fd : FuncData) : Prop := ∃ (oc : Value) (od : Option Addr) (osl : Array (Option Value)), K.lookup f = some ⟨oc, od, .func fd, osl⟩
/-- .. keeps a promise -/
def Df (P : Program) (w : World) (K : PySem.W.Frag) (mg : Str → Option Value) (base : Heap) (k : Nat) (name : Str) (ps : List Str) (sp : Sp) : Prop :=
  ∃ f fd, FG P w K mg base k f fd ps sp ∧ mg name = some (.ref f) ∧ PySem.W.keepIn K (.ref f) = true ∧ Binds K fd ps [] ∧ At0 K f fd
section
variable {P : Program} {w : World} {K : PySem.W.Frag} {mg : Str → Option Value} {base : Heap} {k : Nat} {name : Str} {ps : List Str} {sp : Sp} {f : Addr} {fd : FuncData} {st : Stmt}
theorem Here.df (h : Here K mg name st ps f fd) (g : FG P w K mg base k f fd ps sp) : Df P w K mg base k name ps sp := ⟨f, fd, g, h.2.1, h.1.kp, h.2.2, by
  obtain ⟨oc, od, kV, doc, pm, an, cdv, ct, osl, rfl, lk, _⟩ := h.1.ex
  exact ⟨oc, od, osl, lk⟩⟩
end
section
variable {X : Cx} {k : Nat} {ps : List Str} {sp : Sp} {E : XK} {x : Str} {p pos : Pos} {e : Expr} {es : List Expr} {t : TA}
theorem pe_callD (F : Df X.prog X.w X.K X.mg X.base k x ps sp) (hG : X.A.guards = some []) (hr : Room k X.A) (hg : Gl X x) (ha : PA X (e :: es) t)
    (hdb : (x == ("__debug__" : Str)) = false := by decide) (he : starEach (e :: es) X.env = (false, eval e X.env) :: starEach es X.env := by rfl)
    (hpl : (backTo pos (starEach es X.env)).any (·.1) = false := by rfl) : PE X (.Call (.Name x p) (e :: es) [] pos) (tCall sp [] E0 t) := by
  obtain ⟨f, fd, G, m, kp, b, _⟩ := F
  exact pe_callG hG G hr hg m kp b ha hdb he hpl
end

/-! ### + of ints, of lists; * of ints, of a list and an int -/
def rAddU : R2 := fun x y H Q => rI0 (fun i j => .int (i + j)) x y H Q ∨ rCat x y H Q
def rMulU : R2 := fun x y H Q => rI CMulW (fun i j => .int (i * j)) x y H Q ∨ rRep x y H Q
def rEqU (K : PySem.W.Frag) : R2 := fun x y H Q => rEqD K x y H Q ∨ rEq x y H Q
def rNeU (K : PySem.W.Frag) : R2 := fun x y H Q => rNeD K x y H Q ∨ rNe x y H Q
section
variable {X : Cx}
theorem op_eqU (hu : X.A.units + 64 < cLine) : OpR X (compareOp .Eq) (rEqU X.K) := (op_eqD hu).or op_eq
theorem op_neU (hu : X.A.units + 64 < cLine) : OpR X (compareOp .NotEq) (rNeU X.K) := (op_neD hu).or op_ne
theorem op_addU : OpR X (binaryOp .Add) rAddU := op_add.or op_cat
theorem op_mulU : OpR X (binaryOp .Mult) rMulU := op_mulW.or op_rep
end
section
variable {c : Cn} {K : PySem.W.Frag} {ds : DS} {pl : List D} {Φ : W → List D → Prop} {ta tb te : TE} {tr : TA}
theorem os_addI {i j : Int} {p2 : List D} (h : Φ (.d (.int (i + j))) p2) : OpS c rAddU ds (.int i) (.int j) p2 Φ := fun G σ H v u hs hv hu Q q => .inl (os_I0 (g := fun i j => .int (i + j)) rfl h G σ H v u hs hv hu Q q)
theorem os_addL {xs ys : List D} {p2 : List D} (hl : xs.length + ys.length ≤ sizeLine) (h : Φ (.d (.list (xs ++ ys))) p2) : OpS c rAddU ds (.list xs) (.list ys) p2 Φ := fun G σ H v u hs hv hu Q q => .inr (os_cat hl h G σ H v u hs hv hu Q q)
theorem os_mulI {i j : Int} {p2 : List D} (hc : CMulW i j) (h : Φ (.d (.int (i * j))) p2) : OpS c rMulU ds (.int i) (.int j) p2 Φ := fun G σ H v u hs hv hu Q q => .inl (os_I (g := fun i j => .int (i * j)) hc rfl h G σ H v u hs hv hu Q q)
def repD (xs : List D) (k : Nat) : List D := (List.replicate k xs).flatten
theorem RA.rep {G : Hp} {vs : List V} {xs : List D} (h : RA G vs xs) : ∀ k : Nat, RA G (List.replicate k vs).flatten (repD xs k)
  | 0 => .nil
  | k + 1 => by
    unfold repD
    rw [List.replicate_succ, List.replicate_succ, List.flatten_cons, List.flatten_cons]
    exact h.app (RA.rep h k)
theorem os_sub {i j : Int} {p2 : List D} (h : Φ (.d (.int (i - j))) p2) : OpS c (rI0 fun i j => .int (i - j)) ds (.int i) (.int j) p2 Φ := os_I0 (g := fun i j => .int (i - j)) rfl h
theorem os_mod {i j : Int} {p2 : List D} (hc : 0 < j) (h : Φ (.d (.int (i % j))) p2) : OpS c (rI (fun _ j => 0 < j) fun i j => .int (i % j)) ds (.int i) (.int j) p2 Φ := os_I (C := fun _ j => 0 < j) (g := fun i j => .int (i % j)) hc rfl h
theorem os_fdiv {i j : Int} {p2 : List D} (hc : CDivW i j) (h : Φ (.d (.int (i / j))) p2) : OpS c (rI CDivW fun i j => .int (i / j)) ds (.int i) (.int j) p2 Φ := os_I (g := fun i j => .int (i / j)) hc rfl h
theorem os_pow {i j : Int} {p2 : List D} (hc : CPowW i j) (h : Φ (.d (.int (i ^ j.toNat))) p2) : OpS c (rI CPowW fun i j => .int (i ^ j.toNat)) ds (.int i) (.int j) p2 Φ := os_I (g := fun i j => .int (i ^ j.toNat)) hc rfl h
theorem os_lt {i j : Int} {p2 : List D} (h : Φ (.d (.bool (decide (i < j)))) p2) : OpS c (rI0 fun i j => .bl (decide (i < j))) ds (.int i) (.int j) p2 Φ := os_I0 (g := fun i j => .bl (decide (i < j))) rfl h
theorem os_le {i j : Int} {p2 : List D} (h : Φ (.d (.bool (decide (i ≤ j)))) p2) : OpS c (rI0 fun i j => .bl (decide (i ≤ j))) ds (.int i) (.int j) p2 Φ := os_I0 (g := fun i j => .bl (decide (i ≤ j))) rfl h
theorem os_gt {i j : Int} {p2 : List D} (h : Φ (.d (.bool (decide (j < i)))) p2) : OpS c (rI0 fun i j => .bl (decide (j < i))) ds (.int i) (.int j) p2 Φ := os_I0 (g := fun i j => .bl (decide (j < i))) rfl h
theorem os_ge {i j : Int} {p2 : List D} (h : Φ (.d (.bool (decide (j ≤ i)))) p2) : OpS c (rI0 fun i j => .bl (decide (j ≤ i))) ds (.int i) (.int j) p2 Φ := os_I0 (g := fun i j => .bl (decide (j ≤ i))) rfl h
/-- == of ints, of texts, of data -/
theorem os_eqUD {x y : D} {p2 : List D} (h1 : SeqAt.shaped x = true) (h2 : SeqAt.shaped y = true) (h : Φ (.d (.bool (PyData.eqv x y))) p2) : OpS c (rEqU K) ds x y p2 Φ := fun G σ H v u hs hv hu Q q => .inl (os_eqD h1 h2 h G σ H v u hs hv hu Q q)
theorem os_neUD {x y : D} {p2 : List D} (h1 : SeqAt.shaped x = true) (h2 : SeqAt.shaped y = true) (h : Φ (.d (.bool (!PyData.eqv x y))) p2) : OpS c (rNeU K) ds x y p2 Φ := fun G σ H v u hs hv hu Q q => .inl (os_neD h1 h2 h G σ H v u hs hv hu Q q)
theorem os_eqI {i j : Int} {p2 : List D} (h : Φ (.d (.bool (decide (i = j)))) p2) : OpS c (rEqU K) ds (.int i) (.int j) p2 Φ := fun G σ H v u hs hv hu Q q => .inr (by
  rw [hv.int, hu.int]
  refine ⟨rfl, ?_⟩
  have e : decide (V.int i = V.int j) = decide (i = j) := by rw [decide_eq_decide]; exact ⟨fun z => V.int.inj z, fun z => by rw [z]⟩
  rw [e]
  exact q _ G H (.d _) p2 hs (Ex.refl _) (R.bl _) h)
theorem os_neI {i j : Int} {p2 : List D} (h : Φ (.d (.bool (!decide (i = j)))) p2) : OpS c (rNeU K) ds (.int i) (.int j) p2 Φ := fun G σ H v u hs hv hu Q q => .inr (by
  rw [hv.int, hu.int]
  refine ⟨rfl, ?_⟩
  have e : decide (V.int i = V.int j) = decide (i = j) := by rw [decide_eq_decide]; exact ⟨fun z => V.int.inj z, fun z => by rw [z]⟩
  rw [e]
  exact q _ G H (.d _) p2 hs (Ex.refl _) (R.bl _) h)
theorem os_eqT {i j : Str} {p2 : List D} (h : Φ (.d (.bool (decide (i = j)))) p2) : OpS c (rEqU K) ds (.str i) (.str j) p2 Φ := fun G σ H v u hs hv hu Q q => .inr (by
  rw [hv.str, hu.str]
  refine ⟨rfl, ?_⟩
  have e : decide (V.str i = V.str j) = decide (i = j) := by rw [decide_eq_decide]; exact ⟨fun z => V.str.inj z, fun z => by rw [z]⟩
  rw [e]
  exact q _ G H (.d _) p2 hs (Ex.refl _) (R.bl _) h)
theorem os_neT {i j : Str} {p2 : List D} (h : Φ (.d (.bool (!decide (i = j)))) p2) : OpS c (rNeU K) ds (.str i) (.str j) p2 Φ := fun G σ H v u hs hv hu Q q => .inr (by
  rw [hv.str, hu.str]
  refine ⟨rfl, ?_⟩
  have e : decide (V.str i = V.str j) = decide (i = j) := by rw [decide_eq_decide]; exact ⟨fun z => V.str.inj z, fun z => by rw [z]⟩
  rw [e]
  exact q _ G H (.d _) p2 hs (Ex.refl _) (R.bl _) h)
/-- a owned list, its length -/
theorem we_lenO {i : Nat} {xs : List D} (hi : ds[i]? = some (some (.o xs))) (h : Φ (.d (.int xs.length)) pl) : WE c (tCB (rLenQ K) (tCons (tVar i) tNil)) ds pl Φ := fun G σ H hs Q q => by
  obtain ⟨v, e1, p, vs, rfl, b1, b2, _⟩ := hs.slots i _ hi
  refine ⟨_, e1, p, vs, rfl, .inl (SqL.of b1), ?_⟩
  rw [b2.len]
  exact q _ G H (.d _) pl hs (Ex.refl _) (R.int _) h
mutual
theorem eqv_refl : ∀ d : D, d.canLay0 = true → PyData.eqv d d = true
  | .none, _ => rfl
  | .bool b, _ => by show (b == b) = true; simp
  | .int i, _ => by show (i == i) = true; simp
  | .str x, _ => by show (x == x) = true; simp
  | .list xs, h => eqvA_refl xs (by simpa only [PyData.canLay0] using h)
  | .tuple xs, h => eqvA_refl xs (by simpa only [PyData.canLay0] using h)
  | .dict _, h => by simp [PyData.canLay0] at h
theorem eqvA_refl : ∀ ds : List D, PyData.canLayAll0 ds = true → PyData.eqvAll ds ds = true
  | [], _ => rfl
  | d :: ds, h => by
    have h' : d.canLay0 = true ∧ PyData.canLayAll0 ds = true := by simpa only [PyData.canLayAll0, Bool.and_eq_true] using h
    show (PyData.eqv d d && PyData.eqvAll ds ds) = true
    rw [eqv_refl d h'.1, eqvA_refl ds h'.2]
    rfl
end
/-- == of what is the same data -/
theorem os_eqS {x : D} {p2 : List D} (h1 : okD 20 x) (h : Φ (.d (.bool true)) p2) : OpS c (rEqU K) ds x x p2 Φ := os_eqUD (shaped_of h1) (shaped_of h1) (by rw [eqv_refl x (fine_of h1).lay]; exact h)
theorem os_neS {x : D} {p2 : List D} (h1 : okD 20 x) (h : Φ (.d (.bool false)) p2) : OpS c (rNeU K) ds x x p2 Φ := os_neUD (shaped_of h1) (shaped_of h1) (by rw [eqv_refl x (fine_of h1).lay]; exact h)
end
end PD

/-! PD7: comprehensions over zip, enumerate; all, any; is of bools; calls with keywords; extend, pop -/
namespace PD
open PySem PySem.Spec PyProof.Rows L2 Evl
section
variable {c : Cn} {K : PySem.W.Frag} {ds : DS} {pl : List D} {Φ : W → List D → Prop} {ta tb te : TE} {tr : TA} {tt : TT} {G H : Hp} {σ : L2.St}
theorem lc_turnG (J : Nat → List D → List D → Prop) {σI : L2.St} {dsI : DS} {G1 G' G2 H' H2 : Hp} {Dl : Addr} {i : Nat} {pl' acc : List D} {us : List V} (f : DF c σ ds Dl) (f2 : DF c σI dsI Dl)
    (same : ∀ (i : Nat) (xs : List D), ds[i]? = some (some (W.o xs)) → dsI[i]? = some (some (W.o xs)) ∧ σI[i]? = σ[i]?)
    (h : HS c G' σ H' ds pl') (hw : HS c G2 σI H2 dsI pl') (e1 : Ex G1 G') (e2 : Ex G' G2) (hD : H2 Dl = some (.lst us)) (gD : G2 Dl = none) (ra : RA G' us acc)
    (user : ∀ pin, WT { c with pin := pin } tt dsI pl' fun b p2 => if b = true then WE { c with pin := pin } te dsI p2 (isD fun y p3 => acc.length < sizeLine ∧ J (i + 1) (acc ++ [y]) p3) else J (i + 1) acc p2) :
    J i acc pl' → tt σI H2 fun b H3 => if b = true then te σI H3 fun y H4 => ∃ acc, H4 Dl = some (.lst acc) ∧ acc.length < sizeLine ∧ PvC c σ ds G1 Dl J (i + 1) (upd H4 Dl (.lst (acc ++ [y]))) else PvC c σ ds G1 Dl J (i + 1) H3 := by
  intro hJ
  refine user _ G2 _ H2 (hw.to_with f2 hD gD) _ fun b G3 H3 p2 h3 e3 g2 => ?_
  cases b with
  | true =>
    refine (show WE _ te _ p2 _ from g2) G3 _ H3 h3 _ fun y G4 H4 w p3 h4 e4 f4 g3 => ?_
    match w, f4, g3 with
    | .d z, f4, ⟨g3, g4⟩ =>
      have up := e2.trans (e3.trans e4)
      have b3 := h.back f h4 up same
      have dD : G4 Dl = none := h4.gn Dl _ with_at
      exact ⟨us, h4.pin Dl _ with_at, by rw [ra.len]; exact g3, G4, p3, acc ++ [z], us ++ [y], b3.push f dD, e1.trans up, upd_same, (ra.up up).app (.cons f4 .nil), dD, g4⟩
  | false =>
    have up := e2.trans e3
    exact ⟨G3, p2, acc, us, h.back f h3 up same, e1.trans up, h3.pin Dl _ with_at, ra.up up, h3.gn Dl _ with_at, g2⟩
/-- what two named slots of a block bring -/
theorem two_slots {j1 j2 : Nat} {Dl : Addr} {v1 v2 : V} {d1 d2 : D} (f : DF c σ ds Dl) (hj : ∀ (xs : List D), ds[j1]? ≠ some (some (W.o xs)) ∧ ds[j2]? ≠ some (some (W.o xs))) :
    DF c (((L2.wipe σ [j1, j2]).set j1 (some v1)).set j2 (some v2)) (((wipeD ds [j1, j2]).set j1 (some (.d d1))).set j2 (some (.d d2))) Dl ∧
    ∀ (i : Nat) (xs : List D), ds[i]? = some (some (W.o xs)) → (((wipeD ds [j1, j2]).set j1 (some (.d d1))).set j2 (some (.d d2)))[i]? = some (some (W.o xs)) ∧ (((L2.wipe σ [j1, j2]).set j1 (some v1)).set j2 (some v2))[i]? = σ[i]? := by
  have out : ∀ {i : Nat}, j1 ≠ i → j2 ≠ i → i ∉ [j1, j2] := fun a b z => by
    rcases List.mem_cons.mp z with z | z
    · exact a z.symm
    · exact b (List.mem_singleton.mp z).symm
  have vals : ∀ {i : Nat} {xs : List D}, (((wipeD ds [j1, j2]).set j1 (some (.d d1))).set j2 (some (.d d2)))[i]? = some (some (W.o xs)) → j1 ≠ i ∧ j2 ≠ i := fun {i xs} q => by
    have hlt := (List.getElem?_eq_some_iff.mp q).1
    rw [List.length_set, List.length_set] at hlt
    refine ⟨fun e => ?_, fun e => ?_⟩
    · subst e
      by_cases e2 : j2 = j1
      · subst e2
        rw [List.getElem?_set_self (by rw [List.length_set]; exact hlt)] at q
        cases q
      · rw [List.getElem?_set_ne e2, List.getElem?_set_self hlt] at q
        cases q
    · subst e
      rw [List.getElem?_set_self (by rw [List.length_set]; exact hlt)] at q
      cases q
  refine ⟨⟨f.h0, f.pin, f.pool, f.hd, fun i xs p q1 q2 => ?_⟩, fun i xs q => ?_⟩
  · obtain ⟨n1, n2⟩ := vals q1
    rw [List.getElem?_set_ne n2, List.getElem?_set_ne n1, wipeD_ne (out n1 n2)] at q1
    rw [List.getElem?_set_ne n2, List.getElem?_set_ne n1, wipe_ne (out n1 n2)] at q2
    exact f.ne i xs p q1 q2
  · have n1 : j1 ≠ i := fun e => (hj xs).1 (e ▸ q)
    have n2 : j2 ≠ i := fun e => (hj xs).2 (e ▸ q)
    rw [List.getElem?_set_ne n2, List.getElem?_set_ne n1, wipeD_ne (out n1 n2), List.getElem?_set_ne n2, List.getElem?_set_ne n1, wipe_ne (out n1 n2)]
    exact ⟨q, rfl⟩
theorem wipe_set2 (σ : L2.St) (j1 j2 : Nat) (v1 v2 : V) : L2.wipe (((L2.wipe σ [j1, j2]).set j1 (some v1)).set j2 (some v2)) [j1, j2] = L2.wipe σ [j1, j2] := by
  show ((((σ.set j2 none).set j1 none).set j1 (some v1)).set j2 (some v2) |>.set j2 none |>.set j1 none) = (σ.set j2 none).set j1 none
  rw [List.set_set, List.set_set]
  by_cases e : j1 = j2
  · subst e; simp only [List.set_set]
  · rw [List.set_comm _ _ e, List.set_set, List.set_set]

/-- [e for a, b in zip(xs, ys) if t] -/
theorem we_lcZ {j1 j2 : Nat} (J : Nat → List D → List D → Prop) (xs ys : List D) (hl : ys.length ≤ xs.length) (hj : ∀ (xs : List D), ds[j1]? ≠ some (some (W.o xs)) ∧ ds[j2]? ≠ some (some (W.o xs)))
    (h : WA c tr ds pl fun zs p1 => zs = [.list xs, .list ys] ∧ J 0 [] p1)
    (user : ∀ (i : Nat) x y acc pl', xs[i]? = some x → ys[i]? = some y → J i acc pl' → ∀ pin, WT { c with pin := pin } tt (((wipeD ds [j1, j2]).set j1 (some (.d x))).set j2 (some (.d y))) pl' fun b p2 =>
      if b = true then WE { c with pin := pin } te (((wipeD ds [j1, j2]).set j1 (some (.d x))).set j2 (some (.d y))) p2 (isD fun y p3 => acc.length < sizeLine ∧ J (i + 1) (acc ++ [y]) p3) else J (i + 1) acc p2)
    (hq : ∀ acc pl', J ys.length acc pl' → Φ (.d (.list acc)) pl') : WE c (tLc (iZip K tr) (gTup K 2 (gCons (gName j1) (gCons (gName j2) gNil))) tt te [j1, j2]) ds pl Φ := fun G σ H h0 Q q => h G σ H h0 _ fun vs G1 H1 zs p1 h1 e1 f1 ⟨ez, g1⟩ => by
  subst ez
  obtain ⟨v, u, rfl, r1, r2⟩ := ra2 f1
  cases r1 with
  | @lst a us1 _ a1 b1 =>
  cases r2 with
  | @lst b us2 _ a2 b2 =>
  refine ⟨a, b, us1, us2, rfl, SqL.of (h1.sub _ _ a1), SqL.of (h1.sub _ _ a2), fun Dl hD => ?_⟩
  have f := df_new h1 hD
  refine ⟨fun i m H' => m = us2.length - i ∧ i ≤ us2.length ∧ PvC c σ ds G1 Dl J i H', ⟨us2.length, by simp, Nat.zero_le _, pv_start J h1 hD g1⟩, ?_⟩
  rintro i m H' ⟨rfl, hi, p⟩
  obtain ⟨G', pl', acc, us, h2, e2, hD2, ra, gD, hJ⟩ := id p
  have sq1 : SqL K H' a us1 := SqL.of (h2.sub _ _ (e2 _ _ a1))
  have sq2 : SqL K H' b us2 := SqL.of (h2.sub _ _ (e2 _ _ a2))
  by_cases hlt : i < us2.length
  · have hlt1 : i < us1.length := by rw [b1.len]; rw [b2.len] at hlt; omega
    refine .inr ⟨⟨us1, us2, us1[i], us2[i], sq1, sq2, by simp [hlt1], by simp [hlt]⟩, PvC c σ ds G1 Dl J (i + 1), fun H3 q => ⟨us2.length - (i + 1), by omega, rfl, hlt, q⟩, ?_⟩
    rintro x H3 ⟨T, x1, x2, rfl, hT, rfl, y1, y2⟩
    obtain ⟨d1, hd1, hr1⟩ := b1.get' (y1 us1 sq1)
    obtain ⟨d2, hd2, hr2⟩ := b2.get' (y2 us2 sq2)
    have n := h2.none_of hT
    have e3 : Ex G' (upd G' T (.tup [x1, x2])) := Ex.new n.1
    refine ⟨T, _, rfl, SqT.of upd_same, rfl, _, _, rfl, _, _, rfl, rfl, wipe_set2 σ j1 j2 x1 x2, ?_⟩
    have hw := (((h2.newD (o := .tup [x1, x2]) hT).wipe [j1, j2]).set (i := j1) (w := .d d1) (R.up hr1 (e2.trans e3)) fun xs z => by cases z).set (i := j2) (w := .d d2) (R.up hr2 (e2.trans e3)) fun xs z => by cases z
    obtain ⟨f2, same⟩ := two_slots (v1 := x1) (v2 := x2) (d1 := d1) (d2 := d2) f hj
    refine lc_turnG J f f2 same h2 hw e2 e3 (by rw [upd_ne (ne_of_none hD2 hT)]; exact hD2) ?_ ra (fun pin => user i d1 d2 acc pl' hd1 hd2 hJ pin) hJ
    rw [upd_ne (ne_of_none hD2 hT)]
    exact gD
  · have ei : i = us2.length := by omega
    subst ei
    rw [b2.len] at p
    exact .inl ⟨⟨us1, us2, sq1, sq2, .inr (Nat.le_refl _)⟩, pv_end f p hq fun v G' H' w pl' h2 e2 f2 g2 => q v G' H' w pl' h2 (e1.trans e2) f2 g2⟩
theorem RA.bls {G : Hp} : ∀ {vs : List V} {bs : List Bool}, RA G vs (bs.map PyData.bool) → vs = bs.map V.bl
  | _, [], h => by cases h; rfl
  | _, n :: ns, h => by
    cases h with
    | cons a b =>
      cases a
      rw [List.map_cons, RA.bls b]
theorem cb_all {bs : List Bool} (h : Φ (.d (.bool (bs.all id))) pl) : CbS c (rAll K) ds [.list (bs.map PyData.bool)] pl Φ := fun G σ H vs hs f Q q => by
  obtain ⟨v, rfl, a⟩ := ra1 f
  cases a with
  | lst a b =>
    have e := b.bls
    subst e
    exact ⟨_, bs, rfl, SqL.of (hs.sub _ _ a), q _ G H (.d _) pl hs (Ex.refl _) (R.bl _) h⟩
theorem cb_any {bs : List Bool} (h : Φ (.d (.bool (bs.any id))) pl) : CbS c (rAny K) ds [.list (bs.map PyData.bool)] pl Φ := fun G σ H vs hs f Q q => by
  obtain ⟨v, rfl, a⟩ := ra1 f
  cases a with
  | lst a b =>
    have e := b.bls
    subst e
    exact ⟨_, bs, rfl, SqL.of (hs.sub _ _ a), q _ G H (.d _) pl hs (Ex.refl _) (R.bl _) h⟩
/-- x is not True -/
theorem os_isB {a b : Bool} {p2 : List D} (h : Φ (.d (.bool (decide (a = b)))) p2) : OpS c L2.rIsB ds (.bool a) (.bool b) p2 Φ := fun G σ H v u hs hv hu Q q => ⟨a, b, hv.bl, hu.bl, q _ G H (.d _) p2 hs (Ex.refl _) (R.bl _) h⟩
theorem os_isnB {a b : Bool} {p2 : List D} (h : Φ (.d (.bool (!decide (a = b)))) p2) : OpS c L2.rNotB ds (.bool a) (.bool b) p2 Φ := fun G σ H v u hs hv hu Q q => ⟨a, b, hv.bl, hu.bl, q _ G H (.d _) p2 hs (Ex.refl _) (R.bl _) h⟩
/-! ### isinstance -/
def tyD : D → String
  | .none => "NoneType"
  | .bool _ => "bool"
  | .int _ => "int"
  | .str _ => "str"
  | .list _ => "list"
  | .tuple _ => "tuple"
  | .dict _ => "dict"
def isaN (T n : String) : Bool := T == n || (n == "bool" && T == "int")
def isaD (T : String) (d : D) : Bool := isaN T (tyD d)
def tyNames : List String := ["NoneType", "bool", "int", "str", "list", "tuple", "dict"]
theorem kitB_all : ∀ T ∈ (["int", "bool", "tuple", "list", "str"] : List String), ∀ n ∈ tyNames, kitB n T = some (isaN T n) := by decide +kernel
theorem tyD_mem (d : D) : tyD d ∈ tyNames := by cases d <;> simp [tyD, tyNames]
theorem kit_tyD {T : String} (hT : T ∈ (["int", "bool", "tuple", "list", "str"] : List String)) (d : D) : PySem.W.kitOne K (.type (tyD d)) (.type T) = some (isaD T d) := kit_ty (kitB_all T hT _ (tyD_mem d))
theorem tyX_of {v : V} {d : D} (h : RT G H v d) (s : Ex G H) : TyX K H v (.type (tyD d)) := by
  cases d with
  | none => rw [h.non]; exact .base .non
  | bool b => rw [h.bl]; exact .base (.bl b)
  | int i => rw [h.int]; exact .base (.int i)
  | str x => rw [h.str]; exact .base (.str x)
  | list xs =>
    obtain ⟨p, vs, rfl, a, b⟩ := h.list s
    exact .base (.lst a)
  | tuple xs =>
    obtain ⟨p, vs, rfl, a, b⟩ := h.tup s
    exact .base (.tup a)
  | dict kvs =>
    rcases h with h | ⟨_, _, _, _, e, _⟩
    · cases h
    · cases e
theorem we_isi {T : String} (hT : T ∈ (["int", "bool", "tuple", "list", "str"] : List String)) (ha : WE c ta ds pl (isS fun d p1 => Φ (.d (.bool (isaD T d))) p1)) : WE c (tCB (rIsi K) (tCons ta (tCons (tC (.ty T)) tNil))) ds pl Φ := fun G σ H hs Q q =>
  ha G σ H hs _ fun v G1 H1 w p1 h1 e1 f1 g1 => by
    match w, f1, g1 with
    | .d d, f1, g1 => exact ⟨v, .ty T, _, _, _, rfl, .ty T, tyX_of (.inl f1) h1.sub, kit_tyD hT d, q _ G1 H1 (.d _) p1 h1 e1 (R.bl _) g1⟩
    | .o xs, f1, g1 =>
      obtain ⟨p, us, ev, a2, a3, _⟩ := f1
      subst ev
      exact ⟨_, .ty T, _, _, _, rfl, .ty T, tyX_of (.inr ⟨p, us, xs, rfl, rfl, a2, a3⟩) h1.sub, kit_tyD hT (.list xs), q _ G1 H1 (.d _) p1 h1 e1 (R.bl _) g1⟩
end
end PD

/-! PD8: promises by a type of arguments -/
namespace PD
open PySem PySem.Spec PyProof.Rows L2 Evl
/-- from arguments a: the data ds; asked: pre; handed back: any d with post -/
def rel {A : Type} (enc : A → List D) (pre : A → Prop) (post : A → D → Prop) : List D → (D → Prop) → Prop := fun ds k => ∃ a, ds = enc a ∧ pre a ∧ ∀ d, post a d → k d
def det {A : Type} (enc : A → List D) (pre : A → Prop) (res : A → D) : List D → (D → Prop) → Prop := fun ds k => ∃ a, ds = enc a ∧ pre a ∧ k (res a)
def newL {A : Type} (enc : A → List D) (pre : A → Prop) (res : A → List D) : List D → (List D → Prop) → Prop := fun ds k => ∃ a, ds = enc a ∧ pre a ∧ k (res a)
theorem rel_mono {A : Type} {enc : A → List D} {pre : A → Prop} {post : A → D → Prop} : ∀ xs k k', rel enc pre post xs k → (∀ d, k d → k' d) → rel enc pre post xs k' := fun _ _ _ ⟨a, e, p, h⟩ g => ⟨a, e, p, fun d q => g d (h d q)⟩
theorem det_mono {A : Type} {enc : A → List D} {pre : A → Prop} {res : A → D} : ∀ xs k k', det enc pre res xs k → (∀ d, k d → k' d) → det enc pre res xs k' := fun _ _ _ ⟨a, e, p, h⟩ g => ⟨a, e, p, g _ h⟩
theorem newL_mono {A : Type} {enc : A → List D} {pre : A → Prop} {res : A → List D} : ∀ xs k k', newL enc pre res xs k → (∀ d, k d → k' d) → newL enc pre res xs k' := fun _ _ _ ⟨a, e, p, h⟩ g => ⟨a, e, p, g _ h⟩
section
variable {c : Cn} {K : PySem.W.Frag} {ds : DS} {pl : List D} {Φ : W → List D → Prop} {tr : TA} {E : XK} {A : Type} {enc : A → List D} {pre : A → Prop}
theorem we_det {res : A → D} (a : A) (ha : WA c tr ds pl fun xs p1 => xs = enc a ∧ pre a ∧ Φ (.d (res a)) p1) : WE c (tCall (spP (det enc pre res)) [] E tr) ds pl Φ := we_call (ha.mono fun xs p1 ⟨e, p, h⟩ => ⟨a, e, p, h⟩) det_mono
theorem we_rel {post : A → D → Prop} (a : A) (ha : WA c tr ds pl fun xs p1 => xs = enc a ∧ pre a ∧ ∀ d, post a d → Φ (.d d) p1) : WE c (tCall (spP (rel enc pre post)) [] E tr) ds pl Φ := we_call (ha.mono fun xs p1 ⟨e, p, h⟩ => ⟨a, e, p, h⟩) rel_mono
theorem we_newL {res : A → List D} (a : A) (ha : WA c tr ds pl fun xs p1 => xs = enc a ∧ pre a ∧ Φ (.d (.list (res a))) p1) : WE c (tCall (spN (newL enc pre res)) [] E tr) ds pl Φ := we_callN (ha.mono fun xs p1 ⟨e, p, h⟩ => ⟨a, e, p, h⟩) newL_mono
theorem ws_newL {res : A → List D} {i : Nat} {En : EE} (a : A) (ha : WA c tr ds pl fun xs p1 => xs = enc a ∧ pre a ∧ En.nx (ds.set i (some (.o (res a)))) p1) : WS c (tAsg (tCall (spN (newL enc pre res)) [] E tr) (gName i)) ds pl En :=
  ws_setN (ha.mono fun xs p1 ⟨e, p, h⟩ => ⟨a, e, p, h⟩) newL_mono
section
variable {p2 r : List D} {x y z : D}
theorem os_t0 (h : Φ (.d x) p2) : OpS c (rIx K) ds (.tuple (x :: r)) (.int 0) p2 Φ := os_ix (by
  have : (((x :: r).length : Nat) : Int) = r.length + 1 := by simp
  show atI (x :: r) (((0 : Nat) : Int)) = some x
  exact atI_nat rfl) h
theorem os_t1 (h : Φ (.d y) p2) : OpS c (rIx K) ds (.tuple (x :: y :: r)) (.int 1) p2 Φ := os_ix (by
  show atI (x :: y :: r) (((1 : Nat) : Int)) = some y
  exact atI_nat rfl) h
theorem os_l0 (h : Φ (.d x) p2) : OpS c (rIx K) ds (.list (x :: r)) (.int 0) p2 Φ := os_ix (by
  show atI (x :: r) (((0 : Nat) : Int)) = some x
  exact atI_nat rfl) h
theorem os_l1 (h : Φ (.d y) p2) : OpS c (rIx K) ds (.list (x :: y :: r)) (.int 1) p2 Φ := os_ix (by
  show atI (x :: y :: r) (((1 : Nat) : Int)) = some y
  exact atI_nat rfl) h
theorem os_ln {xs : List D} {n : Nat} (hx : xs[n]? = some x) (h : Φ (.d x) p2) : OpS c (rIx K) ds (.list xs) (.int (n : Int)) p2 Φ := os_ix (atI_nat hx) h
end
end
theorem nox_K {CX : CXT} {P : Program} {w : World} {K : PySem.W.Frag} {mg : Str → Option Value} {base : Heap} {N : List Str} {qual : Str} {scope : Scope} {f : Addr} {cd : Value} {A : Around} {outer : List Env} {s : Shared} {H : Hp} {E : XK} :
  (cxOf CX P w K mg base N qual scope f cd A outer s H E).nox.K = K := rfl
theorem blk_K {X : Cx} {s : Shared} {H : Hp} {scope : Scope} {cenv : Env} {fp : List Addr} : (X.blk s H scope cenv fp).K = X.K := rfl
theorem iteV {b : Bool} {A B : Prop} (h : b = true) (k : A) : if b = true then A else B := by rw [if_pos h]; exact k
theorem iteN {b : Bool} {A B : Prop} (h : b = false) (k : B) : if b = true then A else B := by rw [h]; exact iteF k
theorem ws_unpN {c : Cn} {K : PySem.W.Frag} {ds : DS} {pl : List D} {te : TE} {E : EE} {i j n : Nat} (hn : n = 2) (h : WE c te ds pl (isD fun d p1 => ∃ x y, d = .tuple [x, y] ∧ E.nx ((ds.set i (some (.d x))).set j (some (.d y))) p1)) :
    WS c (tAsg te (gTup K n (gCons (gName i) (gCons (gName j) gNil)))) ds pl E := by subst hn; exact ws_unp h
theorem we_chain {c : Cn} {ds : DS} {pl : List D} {Φ : W → List D → Prop} {ta tb tc : TE} {a b c' : Int} (h1 : WE c ta ds pl fun w p => w = .d (.int a) ∧ p = pl) (h2 : WE c tb ds pl fun w p => w = .d (.int b) ∧ p = pl) (h3 : WE c tc ds pl fun w p => w = .d (.int c') ∧ p = pl)
    (h : Φ (.d (.bool (decide (a ≤ b) && decide (b ≤ c')))) pl) : WE c (tChain (rI0 fun i j => .bl (decide (i ≤ j))) (rI0 fun i j => .bl (decide (i ≤ j))) ta tb tc) ds pl Φ := fun G σ H hs Q q => by
  refine h1 G σ H hs _ ?_
  rintro v1 G1 H1 w1 p1 hs1 e1 f1 ⟨rfl, rfl⟩
  cases f1
  refine h2 G1 σ H1 hs1 _ ?_
  rintro v2 G2 H2 w2 p2 hs2 e2 f2 ⟨rfl, rfl⟩
  cases f2
  refine ⟨a, b, rfl, rfl, _, rfl, ?_⟩
  by_cases z : a ≤ b
  · have z' : decide (a ≤ b) = true := decide_eq_true z
    rw [z'] at h
    simp only [z', if_true]
    refine h3 G2 σ H2 hs2 _ ?_
    rintro v3 G3 H3 w3 p3 hs3 e3 f3 ⟨rfl, rfl⟩
    cases f3
    exact ⟨b, c', rfl, rfl, q _ G3 H3 (.d _) _ hs3 (e1.trans (e2.trans e3)) (R.bl _) h⟩
  · have z' : decide (a ≤ b) = false := decide_eq_false z
    rw [z'] at h
    simp only [z']
    exact q _ G2 H2 (.d (.bool false)) _ hs2 (e1.trans e2) (R.bl _) h
end PD

/-! PD9: the mathematics of combs and moves -/
namespace PD
open PySem PySem.Spec PyProof.Rows L2 Evl

def isWhole : D → Bool
  | .int _ => true
  | _ => false
def isPair : D → Bool
  | .tuple [_, _] => true
  | _ => false
def isWholePair : D → Bool
  | .tuple [.int _, .int _] => true
  | _ => false
def isPitch : D → Bool
  | .int p => decide (1 ≤ p ∧ p ≤ 24)
  | _ => false
structure Comb where
  p : Int
  ts : List Int
abbrev Comb.d (c : Comb) : D := .tuple [.int c.p, .list (c.ts.map PyData.int)]
structure Comb.Ok (c : Comb) : Prop where
  p1 : 1 ≤ c.p
  p24 : c.p ≤ 24
  ne : c.ts ≠ []
  low : ∀ t ∈ c.ts, 0 ≤ t
  high : ∀ t ∈ c.ts, t < c.p
  up : c.ts.Pairwise (· < ·)
abbrev Dv := Comb × Comb
abbrev Dv.d (v : Dv) : D := .tuple [v.1.d, v.2.d]
def Dv.Ok (v : Dv) : Prop := v.1.Ok ∧ v.2.Ok
abbrev Sv := Int × Int
abbrev Sv.d (s : Sv) : D := .tuple [.int s.1, .int s.2]
def caught (c : Comb) (n : Int) : Bool := decide (n % c.p ∈ c.ts)
def held (v : Dv) (s : Sv) : Bool := caught v.1 s.1 || caught v.2 (s.1 - s.2)
/-- the catch below -/
def IsBelow (c : Comb) (n b : Int) : Prop := b ≤ n ∧ caught c b = true ∧ ∀ m, b < m → m ≤ n → caught c m = false
theorem IsBelow.uniq {c : Comb} {n a b : Int} (ha : IsBelow c n a) (hb : IsBelow c n b) : a = b := by
  obtain ⟨a1, a2, a3⟩ := ha
  obtain ⟨b1, b2, b3⟩ := hb
  rcases Int.lt_trichotomy a b with h | h | h
  · have := a3 b h b1
    rw [b2] at this
    cases this
  · exact h
  · have := b3 a h a1
    rw [a2] at this
    cases this
def lowT (c : Comb) (r : Int) : List Int := c.ts.filter fun t => decide (t ≤ r)
def flo (c : Comb) (n : Int) : Int := if lowT c (n % c.p) = [] then n - n % c.p - c.p + c.ts.getLastD 0 else n - n % c.p + (lowT c (n % c.p)).getLastD 0
theorem last_mem : ∀ {l : List Int}, l ≠ [] → l.getLastD 0 ∈ l
  | [], h => absurd rfl h
  | [a], _ => by simp
  | a :: b :: r, _ => by
    have ih := last_mem (l := b :: r) (by simp)
    have e : (a :: b :: r).getLastD 0 = (b :: r).getLastD 0 := by simp [List.getLastD_cons]
    rw [e]
    exact List.mem_cons_of_mem _ ih
theorem last_max : ∀ {l : List Int} {x : Int}, l.Pairwise (· < ·) → x ∈ l → x ≤ l.getLastD 0
  | [], _, _, h => by cases h
  | [a], x, _, h => by
    have := List.mem_singleton.mp h
    subst this
    simp
  | a :: b :: r, x, hp, h => by
    have e : (a :: b :: r).getLastD 0 = (b :: r).getLastD 0 := by simp [List.getLastD_cons]
    rw [e]
    obtain ⟨h1, h2⟩ := List.pairwise_cons.mp hp
    rcases List.mem_cons.mp h with z | z
    · subst z
      exact Int.le_of_lt (h1 _ (last_mem (by simp)))
    · exact last_max h2 z
theorem mod_of {p b t : Int} (h0 : 0 ≤ t) (h1 : t < p) (k : Int) (hb : b = p * k + t) : b % p = t := by
  rw [hb, Int.add_comm, Int.add_mul_emod_self_left]
  exact Int.emod_eq_of_lt h0 h1
theorem flo_spec {c : Comb} (ok : c.Ok) (n : Int) : IsBelow c n (flo c n) := by
  have hp : 0 < c.p := by have := ok.p1; omega
  have r0 := Int.emod_nonneg n (show c.p ≠ 0 by omega)
  have r1 := Int.emod_lt_of_pos n hp
  have hb : n = c.p * (n / c.p) + n % c.p := (Int.mul_ediv_add_emod n c.p).symm
  have res : ∀ m s : Int, ∀ k : Int, m = c.p * k + s → 0 ≤ s → s < c.p → caught c m = decide (s ∈ c.ts) := fun m s k e a b => by
    unfold caught
    rw [mod_of a b k e]
  generalize n % c.p = r at r0 r1 hb
  generalize n / c.p = q at hb
  unfold flo
  have er : n % c.p = r := by rw [hb]; rw [Int.add_comm, Int.add_mul_emod_self_left]; exact Int.emod_eq_of_lt r0 r1
  rw [er]
  by_cases hl : lowT c r = []
  · rw [if_pos hl]
    have none_low : ∀ t ∈ c.ts, r < t := fun t ht => by
      by_cases z : t ≤ r
      · have : t ∈ lowT c r := List.mem_filter.mpr ⟨ht, decide_eq_true z⟩
        rw [hl] at this
        cases this
      · omega
    have lm := last_mem ok.ne
    have l0 := ok.low _ lm
    have l1 := ok.high _ lm
    have mul1 : c.p * (q - 1) = c.p * q - c.p := by rw [Int.mul_sub, Int.mul_one]
    refine ⟨by omega, ?_, fun m m1 m2 => ?_⟩
    · rw [res _ (c.ts.getLastD 0) (q - 1) (by omega) l0 l1]
      exact decide_eq_true lm
    · by_cases hm : c.p * q ≤ m
      · rw [res m (m - c.p * q) q (by omega) (by omega) (by omega)]
        exact decide_eq_false fun z => by have := none_low _ z; omega
      · rw [res m (m - c.p * q + c.p) (q - 1) (by omega) (by omega) (by omega)]
        exact decide_eq_false fun z => by have := last_max ok.up z; omega
  · rw [if_neg hl]
    have lm := last_mem hl
    have lm2 := List.mem_filter.mp lm
    have lr := of_decide_eq_true lm2.2
    have l0 := ok.low _ lm2.1
    have l1 := ok.high _ lm2.1
    have up : (lowT c r).Pairwise (· < ·) := ok.up.sublist (List.filter_sublist ..)
    refine ⟨by omega, ?_, fun m m1 m2 => ?_⟩
    · rw [res _ ((lowT c r).getLastD 0) q (by omega) l0 l1]
      exact decide_eq_true lm2.1
    · rw [res m (m - c.p * q) q (by omega) (by omega) (by omega)]
      exact decide_eq_false fun z => by
        have : m - c.p * q ∈ lowT c r := List.mem_filter.mpr ⟨z, decide_eq_true (by omega)⟩
        have := last_max up this
        omega
/-- a move -/
def mv (v : Dv) (s : Sv) (m : Int) : Sv := if m > 0 then (s.2 + m + max (s.1 - s.2 - m) (flo v.2 (s.1 - s.2)), s.2 + m) else (max (s.1 + m) (flo v.1 s.1), s.2 + m)
def mvs (v : Dv) (s : Sv) (ms : List Int) : Sv := ms.foldl (mv v) s
/-- the states behind each move -/
def trail (v : Dv) : Sv → List Int → List Sv
  | _, [] => []
  | s, m :: r => mv v s m :: trail v (mv v s m) r
theorem mvs_app (v : Dv) (s : Sv) (a b : List Int) : mvs v s (a ++ b) = mvs v (mvs v s a) b := List.foldl_append ..
theorem mvs_take_succ (v : Dv) (s : Sv) (ms : List Int) (i : Nat) (m : Int) (h : ms[i]? = some m) : mvs v s (ms.take (i + 1)) = mv v (mvs v s (ms.take i)) m := by
  rw [List.take_add_one, h, mvs_app]
  rfl
theorem trail_len (v : Dv) : ∀ (s : Sv) (ms : List Int), (trail v s ms).length = ms.length
  | _, [] => rfl
  | s, m :: r => by show (trail v (mv v s m) r).length + 1 = r.length + 1; rw [trail_len]
theorem trail_get (v : Dv) : ∀ (s : Sv) (ms : List Int) (i : Nat), i < ms.length → (trail v s ms)[i]? = some (mvs v s (ms.take (i + 1)))
  | _, [], _, h => by simp at h
  | s, m :: r, 0, _ => rfl
  | s, m :: r, i + 1, h => by
    show (trail v (mv v s m) r)[i]? = some (mvs v (mv v s m) (r.take (i + 1)))
    exact trail_get v _ r i (by simpa using h)
theorem trail_take_succ (v : Dv) (s : Sv) (ms : List Int) (i : Nat) (h : i < ms.length) : (trail v s ms).take (i + 1) = (trail v s ms).take i ++ [mvs v s (ms.take (i + 1))] := by
  rw [List.take_add_one, trail_get v s ms i h]
  rfl
/-- a state leads to a state -/
theorem mv_held {v : Dv} (ok : v.Ok) (s : Sv) (m : Int) (hs : held v s = true) : held v (mv v s m) = true := by
  have hg := (flo_spec ok.1 s.1)
  have hr := (flo_spec ok.2 (s.1 - s.2))
  unfold mv
  by_cases hm : m > 0
  · rw [if_pos hm]
    unfold held at hs ⊢
    by_cases hx : s.1 - s.2 - m ≤ flo v.2 (s.1 - s.2)
    · have e : s.2 + m + max (s.1 - s.2 - m) (flo v.2 (s.1 - s.2)) - (s.2 + m) = flo v.2 (s.1 - s.2) := by omega
      show (caught v.1 _ || caught v.2 (s.2 + m + max (s.1 - s.2 - m) (flo v.2 (s.1 - s.2)) - (s.2 + m))) = true
      rw [e, hr.2.1, Bool.or_true]
    · have e : s.2 + m + max (s.1 - s.2 - m) (flo v.2 (s.1 - s.2)) = s.1 := by omega
      show (caught v.1 (s.2 + m + max (s.1 - s.2 - m) (flo v.2 (s.1 - s.2))) || _) = true
      rw [e]
      rcases Bool.or_eq_true_iff.mp hs with z | z
      · rw [z, Bool.true_or]
      · have : flo v.2 (s.1 - s.2) = s.1 - s.2 := by
          rcases Int.lt_or_le (flo v.2 (s.1 - s.2)) (s.1 - s.2) with y | y
          · have := hr.2.2 _ y (Int.le_refl _)
            rw [z] at this
            cases this
          · have := hr.1; omega
        omega
  · rw [if_neg hm]
    unfold held at hs ⊢
    by_cases hx : s.1 + m ≤ flo v.1 s.1
    · have e : max (s.1 + m) (flo v.1 s.1) = flo v.1 s.1 := by omega
      show (caught v.1 (max (s.1 + m) (flo v.1 s.1)) || _) = true
      rw [e, hg.2.1, Bool.true_or]
    · have e : max (s.1 + m) (flo v.1 s.1) = s.1 + m := by omega
      show (caught v.1 (max (s.1 + m) (flo v.1 s.1)) || caught v.2 (max (s.1 + m) (flo v.1 s.1) - (s.2 + m))) = true
      rw [e]
      have e2 : s.1 + m - (s.2 + m) = s.1 - s.2 := by omega
      rw [e2]
      rcases Bool.or_eq_true_iff.mp hs with z | z
      · have : flo v.1 s.1 = s.1 := by
          rcases Int.lt_or_le (flo v.1 s.1) s.1 with y | y
          · have := hg.2.2 _ y (Int.le_refl _)
            rw [z] at this
            cases this
          · have := hg.1; omega
        omega
      · rw [z, Bool.or_true]
theorem mvs_held {v : Dv} (ok : v.Ok) : ∀ (ms : List Int) (s : Sv), held v s = true → held v (mvs v s ms) = true
  | [], _, h => h
  | m :: r, s, h => mvs_held ok r (mv v s m) (mv_held ok s m h)

/-! ### lists of ints as data -/
theorem ints_at {ns : List Int} {i : Nat} {x : D} (h : (ns.map PyData.int)[i]? = some x) : ∃ t, ns[i]? = some t ∧ x = .int t := by
  rw [List.getElem?_map] at h
  cases e : ns[i]? with
  | none => rw [e] at h; cases h
  | some t =>
    rw [e] at h
    exact ⟨t, rfl, (Option.some.inj h).symm⟩
theorem tfil_yes {l : List Int} {i : Nat} {t : Int} {p : Int → Bool} (h : l[i]? = some t) (hp : p t = true) : (l.take (i + 1)).filter p = (l.take i).filter p ++ [t] := by
  rw [List.take_add_one, h, List.filter_append]
  simp [hp]
theorem tfil_no {l : List Int} {i : Nat} {t : Int} {p : Int → Bool} (h : l[i]? = some t) (hp : p t = false) : (l.take (i + 1)).filter p = (l.take i).filter p := by
  rw [List.take_add_one, h, List.filter_append]
  simp [hp]
theorem sorted_len : ∀ {l : List Int} {a b : Int}, l.Pairwise (· < ·) → (∀ t ∈ l, a ≤ t) → (∀ t ∈ l, t < b) → (l.length : Int) ≤ max 0 (b - a)
  | [], a, b, _, _, _ => by show (0 : Int) ≤ _; omega
  | x :: r, a, b, hp, h1, h2 => by
    obtain ⟨p1, p2⟩ := List.pairwise_cons.mp hp
    have ih := sorted_len (a := x + 1) (b := b) p2 (fun t ht => by have := p1 t ht; omega) fun t ht => h2 t (List.mem_cons_of_mem _ ht)
    have a1 := h1 x List.mem_cons_self
    have a2 := h2 x List.mem_cons_self
    rw [List.length_cons]
    omega
theorem Comb.Ok.len {c : Comb} (ok : c.Ok) : c.ts.length ≤ 24 := by
  have := sorted_len ok.up ok.low ok.high
  have := ok.p24
  omega
theorem ts_small {c : Comb} (ok : c.Ok) (p : Int → Bool) (i : Nat) : ((c.ts.take i).filter p).length < sizeLine := by
  have h1 := List.length_filter_le p (c.ts.take i)
  have h2 : (c.ts.take i).length ≤ c.ts.length := by rw [List.length_take]; omega
  have h3 := ok.len
  rw [sizeLine_eq]
  omega
theorem ix_last {l : List Int} (h : l ≠ []) : ixD (.list (l.map PyData.int)) (-1) = some (.int (l.getLastD 0)) := by
  have e : l = l.dropLast ++ [l.getLastD 0] := by
    rw [show l.getLastD 0 = l.getLast h by simp [List.getLastD_eq_getLast?, List.getLast?_eq_getLast h]]
    exact (List.dropLast_concat_getLast h).symm
  show atI (l.map PyData.int) (-1) = _
  rw [e, List.map_append]
  have e2 : (l.dropLast ++ [l.getLastD 0]).getLastD 0 = l.getLastD 0 := by rw [← e]
  rw [e2]
  exact atI_last _ _
theorem StCut.cut1 (xs : List D) : cutD xs (some 1) none = xs.drop 1 := by
  unfold cutD
  rw [show HT.sIx xs.length 0 (some 1) = min 1 xs.length from HT.sIx_nat xs.length 0 1, HT.sIx_none]
  cases xs with
  | nil => rfl
  | cons x r =>
    have e : min 1 (x :: r).length = 1 := by rw [List.length_cons]; omega
    rw [e, List.drop_succ_cons, List.drop_zero, List.length_cons, Nat.add_sub_cancel, List.take_length]
theorem cut_tail (xs : List Int) : cutD (xs.map PyData.int) (some 1) none = xs.tail.map PyData.int := by
  have h := StCut.cut1 (xs.map PyData.int)
  rw [h, List.drop_one, List.map_tail]
theorem asc_next : ∀ {l : List Int} {i : Nat} {a b : Int}, l.Pairwise (· < ·) → l[i]? = some a → l[i + 1]? = some b → a < b
  | [], _, _, _, _, h, _ => by simp at h
  | x :: r, 0, a, b, hp, h1, h2 => by
    have := Option.some.inj h1
    subst this
    exact (List.pairwise_cons.mp hp).1 b (List.mem_of_getElem? (i := 0) (by simpa using h2))
  | x :: r, i + 1, a, b, hp, h1, h2 => asc_next (List.pairwise_cons.mp hp).2 (by simpa using h1) (by simpa using h2)
end PD

/-! PD10: a law's pool, its script -/
namespace PD
open PySem PySem.Spec PyProof.Rows L2 Evl

/-- the pool behind at most n draws -/
def Pk (n : Nat) (pl : List D) : Prop := ∃ a b c : Int, pl = [.int a, .int b, .int c] ∧ 0 ≤ a ∧ 0 ≤ b ∧ b < 2 ^ 100 ∧ 0 ≤ c ∧ c ≤ n
theorem Pk.up {n m : Nat} {pl : List D} (h : Pk n pl) (e : n ≤ m) : Pk m pl := by
  obtain ⟨a, b, c, h1, h2, h3, h4, h5, h6⟩ := h
  exact ⟨a, b, c, h1, h2, h3, h4, h5, by omega⟩
/-- a def over a pool: from a pool Pk n and arguments; at most B draws more -/
def poolF {A : Type} (L : Nat) (enc : A → List D) (pre : A → Prop) (B : A → Nat) (post : A → D → Prop) : List D → List D → (D → List D → Prop) → Prop := fun pl ds k => ∃ (a : A) (n : Nat), ds = enc a ∧ pre a ∧ Pk n pl ∧ n < L ∧ ∀ d pl', post a d → Pk (n + B a) pl' → k d pl'
theorem poolF_mono {A : Type} {L : Nat} {enc : A → List D} {pre : A → Prop} {B : A → Nat} {post : A → D → Prop} : ∀ pl ds k k', poolF L enc pre B post pl ds k → (∀ d p, k d p → k' d p) → poolF L enc pre B post pl ds k' :=
  fun _ _ _ _ ⟨a, n, e, p, q, l, h⟩ g => ⟨a, n, e, p, q, l, fun d p x y => g d p (h d p x y)⟩
section
variable {c : Cn} {K : PySem.W.Frag} {ds : DS} {pl : List D} {Φ : W → List D → Prop} {tr : TA} {te : TE} {E : XK} {A : Type} {enc : A → List D} {pre : A → Prop} {B : A → Nat} {post : A → D → Prop} {L : Nat}
theorem we_pool {i : Nat} {p : Addr} (a : A) (hi : ds[i]? = some (some (.v (.ref p)))) (hp : c.pool = some p)
    (ha : WA c tr ds pl fun xs p1 => xs = enc a ∧ pre a ∧ ∃ n, Pk n p1 ∧ n < L ∧ ∀ d p2, post a d → Pk (n + B a) p2 → Φ (.d d) p2) : WE c (tCall (spO (poolF L enc pre B post)) [] E (tCons (tVar i) tr)) ds pl Φ :=
  we_callO hi hp (ha.mono fun xs p1 ⟨e, h, n, q, l, k⟩ => ⟨a, n, e, h, q, l, k⟩) poolF_mono
/-! ### the script -/
def Scr (K : PySem.W.Frag) (c : Cn) (a : Addr) (ns : List Int) : Prop := SqL K c.H0 a (ns.map V.int) ∧ c.pool ≠ some a
theorem Scr.at {a : Addr} {ns : List Int} (h : Scr K c a ns) {G H : Hp} {σ : L2.St} (hs : HS c G σ H ds pl) : SqL K H a (ns.map V.int) := by
  obtain ⟨h, hp⟩ := h
  rcases h with (h | ⟨o, h⟩) | h
  · exact .inl (.inl (hs.keep _ _ hp h))
  · exact .inl (.inr ⟨o, hs.keep _ _ hp h⟩)
  · exact .inr h
theorem we_lenS {a : Addr} {ns : List Int} {i : Nat} (hS : Scr K c a ns) (hi : ds[i]? = some (some (.v (.ref a)))) (h : Φ (.d (.int ns.length)) pl) : WE c (tCB (rLenQ K) (tCons (tVar i) tNil)) ds pl Φ := fun G σ H hs Q q => by
  obtain ⟨v, e1, e2⟩ := hs.slots i _ hi
  have e2' : v = .ref a := e2
  subst e2'
  refine ⟨_, e1, a, ns.map V.int, rfl, .inl (hS.at hs), ?_⟩
  rw [List.length_map]
  exact q _ G H (.d _) pl hs (Ex.refl _) (R.int _) h
theorem we_ixS {a : Addr} {ns : List Int} {i : Nat} (hS : Scr K c a ns) (hi : ds[i]? = some (some (.v (.ref a)))) (hb : WE c te ds pl (isI fun k p1 => ∃ e, atI ns k = some e ∧ Φ (.d (.int e)) p1)) : WE c (tOp (rIx K) (tVar i) te) ds pl Φ := fun G σ H hs Q q => by
  obtain ⟨v, e1, e2⟩ := hs.slots i _ hi
  have e2' : v = .ref a := e2
  subst e2'
  refine ⟨_, e1, hb G σ H hs _ fun u G1 H1 w p1 h1 e1 f1 g1 => ?_⟩
  match w, f1, g1 with
  | .d (.int k), f1, ⟨e, g1, g2⟩ =>
    cases f1
    have g1' : atI (ns.map V.int) k = some (.int e) := by
      unfold atI at g1 ⊢
      rw [List.length_map]
      cases q : ixN ns.length k with
      | none => rw [q] at g1; cases g1
      | some j =>
        rw [q] at g1
        show (ns.map V.int)[j]? = _
        rw [List.getElem?_map]
        have g1'' : ns[j]? = some e := g1
        rw [g1'']
        rfl
    exact .inl ⟨a, _, k, _, rfl, rfl, hS.at h1, g1', q _ G1 H1 (.d _) p1 h1 e1 (R.int _) g2⟩
/-! ### a new list becomes the pool -/
/-- a def that makes a pool from the script and a place -/
def spMk (K : PySem.W.Frag) (F : List Int → Int → (List D → Prop) → Prop) : Sp := fun vs H Q _ => ∃ G a ns i, vs = [.ref a, .int i] ∧ Ex G H ∧ SqL K H a (ns.map V.int) ∧ F ns i fun xs => ∀ p us G' H', Ex H H' → Ex G' H' → Ex G G' → (∀ a o, H a = some o → G a = none → G' a = none) → H p = none → G' p = none →
  H' p = some (.lst us) → RA G' us xs → Q (.ref p) H'
theorem HS.topool {G H : Hp} {σ : L2.St} (hc : c.pool = none) (h : HS c G σ H ds pl) {p : Addr} {us : List V} {xs : List D} (hp : H p = some (.lst us)) (r : RA G us xs) (gp : G p = none) (h0 : c.H0 p = none) (hn : c.pin p = none) (hh : ¬ c.hd p)
    (hd : ∀ (i : Nat) (ys : List D), ds[i]? = some (some (W.o ys)) → σ[i]? ≠ some (some (.ref p))) : HS { c with pool := some p } G σ H ds xs := by
  refine ⟨h.sub, h.gh, fun a q => ?_, h.gn, fun a o _ q => h.keep a o (by rw [hc]; simp) q, fun q z => ?_, h.pin, h.hid, h.len, fun i w q => ?_, h.own⟩
  · cases q; exact gp
  · cases z
    exact ⟨hh, hn, us, hp, r⟩
  · obtain ⟨v, e1, e2⟩ := h.slots i w q
    refine ⟨v, e1, ?_⟩
    cases w with
    | d x => exact e2
    | v x => exact e2
    | o ys =>
      obtain ⟨p', vs, rfl, a1, a2, a3, a4, a5, a6, a7⟩ := e2
      exact ⟨p', vs, rfl, a1, a2, a3, a4, a5, fun z => hd i ys q (by rw [e1, Option.some.inj z]), a7⟩
theorem HS.offpool {G H : Hp} {σ : L2.St} {p : Addr} (hc : c.pool = none) (h0 : c.H0 p = none) (h : HS { c with pool := some p } G σ H ds pl) : HS c G σ H ds [] := by
  refine ⟨h.sub, h.gh, fun a q => (by rw [hc] at q; cases q), h.gn, fun a o _ q => h.keep a o (fun z => ?_) q, fun q z => (by rw [hc] at z; cases z), h.pin, h.hid, h.len, fun i w q => ?_, h.own⟩
  · have z' : p = a := Option.some.inj z
    rw [← z', h0] at q
    cases q
  · obtain ⟨v, e1, e2⟩ := h.slots i w q
    refine ⟨v, e1, ?_⟩
    cases w with
    | d x => exact e2
    | v x => exact e2
    | o ys =>
      obtain ⟨p', vs, rfl, a1, a2, a3, a4, a5, a6, a7⟩ := e2
      exact ⟨p', vs, rfl, a1, a2, a3, a4, a5, by rw [hc]; simp, a7⟩
theorem ws_mkpool {F : List Int → Int → (List D → Prop) → Prop} {i j : Nat} {a : Addr} {ns : List Int} {rest : TS} {En : EE} (hc : c.pool = none) (hS : Scr K c a ns) (hj : ds[j]? = some (some (.v (.ref a)))) (ti : TE) (n : Int)
    (hti : WE c ti ds [] fun w p => w = .d (.int n) ∧ p = [])
    (mono : ∀ k k', F ns n k → (∀ d, k d → k' d) → F ns n k')
    (h : F ns n fun xs => ∀ p, WS { c with pool := some p } rest (ds.set i (some (.v (.ref p)))) xs ⟨fun d _ => En.nx d [], fun w _ => En.rt w [], fun d _ => En.bk d [], fun d _ => En.ct d []⟩) :
    WS c (tSeq (tAsg (tCall (spMk K F) [] E (tCons (tVar j) (tCons ti tNil))) (gName i)) rest) ds [] En := fun G σ H hs D' f => by
  obtain ⟨v, e1, e2⟩ := hs.slots j _ hj
  have e2' : v = .ref a := e2
  subst e2'
  refine ⟨_, e1, hti G σ H hs _ ?_⟩
  rintro u G1 H1 w p1 h1 e1' f1 ⟨rfl, rfl⟩
  cases f1
  refine ⟨G1, a, ns, n, rfl, h1.sub, hS.at h1, mono _ _ h fun xs hx p us G' H' a1 a2 a3 a4 a5 a6 a7 a8 => ?_⟩
  obtain ⟨n1, n2, n3, n4, n5⟩ := h1.none_of a5
  have b1 := h1.ext a1 a2 a3 a4
  have b2 : HS { c with pool := some p } G' σ H' ds xs := b1.topool hc a7 a8 a6 n5 n3 n2 fun i ys q1 q2 => by
    obtain ⟨v, e2, p', us', rfl, b1, _⟩ := h1.slots i _ q1
    rw [q2] at e2
    have ep : p = p' := V.ref.inj (Option.some.inj (Option.some.inj e2))
    rw [← ep, a5] at b1
    cases b1
  have b3 := b2.set (i := i) (v := .ref p) (w := .v (.ref p)) rfl fun xs z => by cases z
  refine hx p G' _ H' b3 D' ⟨?_, ?_, ?_, ?_⟩
  · exact fun G3 σ3 H3 ds3 pl3 h3 e3 g3 => f.nx G3 σ3 H3 ds3 [] (h3.offpool hc n5) (e1'.trans (a3.trans e3)) g3
  · intro v G3 σ3 H3 ds3 w3 pl3 h3 e3 q3 g3
    refine f.rt v G3 σ3 H3 ds3 w3 [] (h3.offpool hc n5) (e1'.trans (a3.trans e3)) ?_ g3
    cases w3 with
    | d x => exact q3
    | v x => exact q3
    | o ys =>
      obtain ⟨p', vs, rfl, a1, a2, a3, a4, a5, a6, a7⟩ := q3
      exact ⟨p', vs, rfl, a1, a2, a3, a4, a5, by rw [hc]; simp, a7⟩
  · exact fun G3 σ3 H3 ds3 pl3 h3 e3 g3 => f.bk G3 σ3 H3 ds3 [] (h3.offpool hc n5) (e1'.trans (a3.trans e3)) g3
  · exact fun G3 σ3 H3 ds3 pl3 h3 e3 g3 => f.ct G3 σ3 H3 ds3 [] (h3.offpool hc n5) (e1'.trans (a3.trans e3)) g3
end
section
variable {P : Program} {w : World} {K : PySem.W.Frag} {mg : Str → Option Value} {base : Heap} {k : Nat} {f : Addr} {fd : FuncData} {ps : List Str}
/-- slots that begin with raw values and data -/
theorem hs_startW {G H : Hp} {vs : List V} {ws : List W} {N : List Str} (s : Ex G H) (hl : vs.length = ws.length) (r : ∀ (i : Nat) (w : W), ws[i]? = some w → ∃ v, vs[i]? = some v ∧ ((∃ d, w = .d d ∧ R G v d) ∨ w = .v v)) :
    HS ⟨H, fun a => G a = none ∧ ∃ o, H a = some o, none, fun _ => none⟩ G (L2.start N vs) H (ws.map some ++ List.replicate (N.length - ws.length) none) [] := by
  have key : ∀ (i : Nat) (w : W), (ws.map some ++ List.replicate (N.length - ws.length) none)[i]? = some (some w) → ws[i]? = some w := fun i w q => by
    by_cases hi : i < ws.length
    · rw [List.getElem?_append_left (by rw [List.length_map]; exact hi), List.getElem?_map, List.getElem?_eq_getElem hi] at q
      rw [List.getElem?_eq_getElem hi]
      exact Option.some.inj q
    · rw [List.getElem?_append_right (by rw [List.length_map]; omega), List.getElem?_replicate] at q
      split at q <;> cases q
  refine ⟨s, fun a q => q.1, fun a q => (by cases q), fun a o q => (by cases q), fun a o _ q => q, fun p q => (by cases q), fun a o q => (by cases q), fun a q => q.2, ?_, fun i w q => ?_, fun i j p xs ys q1 => ?_⟩
  · unfold L2.start
    simp only [List.length_append, List.length_map, List.length_replicate, hl]
  · have q' := key i w q
    have hi : i < ws.length := (List.getElem?_eq_some_iff.mp q').1
    obtain ⟨v, e1, e2⟩ := r i w q'
    refine ⟨v, ?_, ?_⟩
    · unfold L2.start
      rw [List.getElem?_append_left (by rw [List.length_map, hl]; exact hi), List.getElem?_map, e1]
      rfl
    · rcases e2 with ⟨d, rfl, e2⟩ | rfl
      · exact e2
      · rfl
  · have q' := key i _ q1
    obtain ⟨v, e1, e2⟩ := r i _ q'
    rcases e2 with ⟨d, e2, _⟩ | e2 <;> cases e2
theorem fgMk {F : List Int → Int → (List D → Prop) → Prop} {x qual : Str} {st : Stmt} {N : List Str} (Fn : Fun K x qual st f fd) (S : FnScope N ps (defScope st)) (len : ps.length = 2)
    (go : ∀ (cdv : Value) (B : Around) (fr : List Env) (s : Shared) (H : Hp) (E : XK), B.guards = some [] → Room k (B.deeper (envOfC qual (defScope st) s.heap.objs.size f cdv)) → ∃ t, PSs (cxOf CX0 P w K mg base N qual (defScope st) f cdv B fr s H E).nox (defBody st) t ∧
      ∀ c a (ns : List Int) (i : Int) (k : List D → Prop), c.pool = none → Scr K c a ns → F ns i k → WS c t ([W.v (.ref a), W.d (.int i)].map some ++ List.replicate (N.length - 2) none) [] ⟨fun _ _ => False, rtN k, fun _ _ => False, fun _ _ => False⟩) : FG P w K mg base (k + 1) f fd ps (spMk K F) := by
  refine fg_of Fn S (fun vs H Q E h => ?_) fun cdv B fr s H vs Q E hg hr h => ?_
  · obtain ⟨G, a, ns, i, rfl, _⟩ := h
    rw [len]
    rfl
  · obtain ⟨t, der, body⟩ := go cdv B fr s H E hg hr
    refine ⟨t, der, ?_⟩
    obtain ⟨G, a, ns, i, rfl, s0, hS, h⟩ := h
    have st0 := hs_startW (N := N) (vs := [.ref a, .int i]) (ws := [W.v (.ref a), W.d (.int i)]) s0 rfl (fun j w q => by
      match j, q with
      | 0, q => cases q; exact ⟨_, rfl, .inr rfl⟩
      | 1, q => cases q; exact ⟨_, rfl, .inl ⟨_, rfl, .int i⟩⟩
      | j + 2, q => simp at q)
    refine body ⟨H, fun a => G a = none ∧ ∃ o, H a = some o, none, fun _ => none⟩ a ns i _ rfl ⟨hS, by simp⟩ h G _ H st0 _ ⟨?_, ?_, ?_, ?_⟩
    · exact fun G' σ' H' ds' pl' h' e q => q.elim
    · intro v G' σ' H' ds' w' pl' h' e q g
      match w', q, g with
      | .o y, ⟨p, us, ev, a1, a2, a3, a4, a5, a6, a7⟩, g =>
        subst ev
        exact g p us G' H' (fun a o z => h'.keep a o (fun y => by cases y) z) h'.sub e (fun a o z1 z2 => h'.gh a ⟨z2, o, z1⟩) a4 a3 a1 a2
    · exact fun G' σ' H' ds' pl' h' e q => q.elim
    · exact fun G' σ' H' ds' pl' h' e q => q.elim
/-- the law itself: from the script it hands back True -/
def spLaw (K : PySem.W.Frag) : Sp := fun vs H Q _ => ∃ (a : Addr) (ns : List Int), vs = [.ref a] ∧ SqL K H a (ns.map V.int) ∧ ns.length ≤ 63 ∧ ∀ H', Q (.bl true) H'
theorem fgLaw {x qual : Str} {st : Stmt} {N : List Str} (Fn : Fun K x qual st f fd) (S : FnScope N ps (defScope st)) (len : ps.length = 1)
    (go : ∀ (cdv : Value) (B : Around) (fr : List Env) (s : Shared) (H : Hp) (E : XK), B.guards = some [] → Room k (B.deeper (envOfC qual (defScope st) s.heap.objs.size f cdv)) → ∃ t, PSs (cxOf CX0 P w K mg base N qual (defScope st) f cdv B fr s H E).nox (defBody st) t ∧
      ∀ c a (ns : List Int), c.pool = none → Scr K c a ns → ns.length ≤ 63 → WS c t ([W.v (.ref a)].map some ++ List.replicate (N.length - 1) none) [] ⟨fun _ _ => False, rtD fun d => d = .bool true, fun _ _ => False, fun _ _ => False⟩) : FG P w K mg base (k + 1) f fd ps (spLaw K) := by
  refine fg_of Fn S (fun vs H Q E h => ?_) fun cdv B fr s H vs Q E hg hr h => ?_
  · obtain ⟨a, ns, rfl, _⟩ := h
    rw [len]
    rfl
  · obtain ⟨t, der, body⟩ := go cdv B fr s H E hg hr
    refine ⟨t, der, ?_⟩
    obtain ⟨a, ns, rfl, hS, hl, h⟩ := h
    have st0 := hs_startW (G := fun _ => none) (H := H) (N := N) (vs := [.ref a]) (ws := [W.v (.ref a)]) (fun a o q => by cases q) rfl (fun j w q => by
      match j, q with
      | 0, q => cases q; exact ⟨_, rfl, .inr rfl⟩
      | j + 1, q => simp at q)
    refine body ⟨H, fun a => (none : Option HO) = none ∧ ∃ o, H a = some o, none, fun _ => none⟩ a ns rfl ⟨hS, by simp⟩ hl (fun _ => none) _ H st0 _ ⟨?_, ?_, ?_, ?_⟩
    · exact fun G' σ' H' ds' pl' h' e q => q.elim
    · intro v G' σ' H' ds' w' pl' h' e q g
      match w', q, g with
      | .d y, q, g =>
        have g' : y = .bool true := g
        subst g'
        cases q
        exact h H'
    · exact fun G' σ' H' ds' pl' h' e q => q.elim
    · exact fun G' σ' H' ds' pl' h' e q => q.elim
end
end PD

/-! PD11: bounds -/
namespace PD
open PySem PySem.Spec PyProof.Rows L2 Evl
theorem nat_lt_pow {i : Int} {n : Nat} (h0 : -(2 : Int) ^ n < i) (h1 : i < (2 : Int) ^ n) : i.natAbs < 2 ^ n := by
  have e : ((2 : Int) ^ n) = ((2 ^ n : Nat) : Int) := by simp
  rw [e] at h0 h1
  omega
theorem mulw {i j : Int} (a b : Nat) (h1 : -(2 : Int) ^ a < i) (h2 : i < (2 : Int) ^ a) (h3 : -(2 : Int) ^ b < j) (h4 : j < (2 : Int) ^ b) (h5 : 0 < a) (h6 : 0 < b) (h7 : a + b ≤ 1000000) : CMulW i j := wide_mul (nat_lt_pow h1 h2) (nat_lt_pow h3 h4) h5 h6 h7
theorem divw {j : Int} (i : Int) (h : 0 < j) (h2 : j < (2 : Int) ^ 200) : CDivW i j := wide_div h (b := 200) (nat_lt_pow (by have : (0 : Int) < (2 : Int) ^ 200 := Int.pow_pos (by decide); omega) h2) (by decide) (by decide)
theorem poww {i : Int} {j : Int} (h0 : 0 ≤ j) (h1 : j ≤ 1000) (h2 : -(2 : Int) ^ 2000 < i) (h3 : i < (2 : Int) ^ 2000) : CPowW i j := ⟨h0, h1, nat_lt_pow h2 h3⟩
theorem pow200 : (2 : Int) ^ 200 < (2 : Int) ^ 2000 ∧ (0 : Int) < (2 : Int) ^ 200 := ⟨by decide +kernel, by decide +kernel⟩
section
variable {c : Cn} {K : PySem.W.Frag} {ds : DS} {pl : List D} {Φ : W → List D → Prop} {tr : TA} {te : TE} {E : XK}
abbrev drawF := poolF 9000000 (fun t : Int => [.int t]) (fun t => 0 < t ∧ t < (2 : Int) ^ 200) (fun _ => 1) (fun t d => ∃ v, d = .int v ∧ 0 ≤ v ∧ v < t)
theorem we_draw {i : Nat} {p : Addr} (t : Int) (n : Nat) (hi : ds[i]? = some (some (.v (.ref p)))) (hp : c.pool = some p)
    (ha : WA c tr ds pl fun xs p1 => xs = [.int t] ∧ (0 < t ∧ t < (2 : Int) ^ 200) ∧ Pk n p1 ∧ n < 9000000 ∧ ∀ v p2, 0 ≤ v → v < t → Pk (n + 1) p2 → Φ (.d (.int v)) p2) : WE c (tCall (spO drawF) [] E (tCons (tVar i) tr)) ds pl Φ :=
  we_pool t hi hp (ha.mono fun xs p1 ⟨e, h, hP, hn, k⟩ => ⟨e, h, n, hP, hn, fun d p2 ⟨v, hv, v0, v1⟩ hP2 => by subst hv; exact k v p2 v0 v1 hP2⟩)
theorem os_pick {xs : List D} {v : Int} {p2 : List D} (Qx : D → Prop) (h0 : 0 ≤ v) (h1 : v < (xs.length : Int)) (hq : ∀ x ∈ xs, Qx x) (k : ∀ x, Qx x → Φ (.d x) p2) : OpS c (rIx K) ds (.list xs) (.int v) p2 Φ := by
  have hlt : v.toNat < xs.length := by omega
  have e : v = (v.toNat : Int) := by omega
  rw [e]
  exact os_ln (List.getElem?_eq_getElem hlt) (k _ (hq _ (List.getElem_mem hlt)))
end
end PD

/-! PD12: sizes of combs, devices, states; lists that are empty or not -/
namespace PD
open PySem PySem.Spec PyProof.Rows L2 Evl
theorem okD_ints {n : Nat} {ns : List Int} (h : ∀ t ∈ ns, t.natAbs < 10 ^ 150) : okD (n + 1) (.list (ns.map PyData.int)) := fun x hx => by
  obtain ⟨t, ht, rfl⟩ := List.mem_map.mp hx
  have := h t ht
  cases n <;> exact this
theorem cnt_ints (ns : List Int) : cnt (.list (ns.map PyData.int)) = ns.length + 1 := by
  show cntA _ + 1 = _
  rw [cntA_ints]
theorem small24 {t : Int} (h0 : -(100 : Int) ≤ t) (h1 : t ≤ 100) : t.natAbs < 10 ^ 150 := Nat.lt_of_le_of_lt (show t.natAbs ≤ 100 by omega) (by decide +kernel)
theorem Comb.Ok.okD {c : Comb} (ok : c.Ok) (n : Nat) : okD (n + 2) c.d := fun x hx => by
  have p1 := ok.p1
  have p2 := ok.p24
  rcases List.mem_cons.mp hx with rfl | hx
  · exact small24 (by omega) (by omega)
  · rw [List.mem_singleton.mp hx]
    exact okD_ints fun t ht => by
      have := ok.low t ht
      have := ok.high t ht
      exact small24 (by omega) (by omega)
theorem Dv.Ok.okD {v : Dv} (ok : v.Ok) (n : Nat) : okD (n + 3) v.d := fun x hx => by
  rcases List.mem_cons.mp hx with rfl | hx
  · exact ok.1.okD n
  · rw [List.mem_singleton.mp hx]
    exact ok.2.okD n
theorem Comb.Ok.cnt {c : Comb} (ok : c.Ok) : cnt c.d ≤ 27 := by
  show PD.cnt (.int c.p) + (PD.cnt (.list (c.ts.map PyData.int)) + 0) + 1 ≤ _
  rw [cnt_ints]
  have := ok.len
  show 1 + _ + 1 ≤ _
  omega
theorem Dv.Ok.cnt {v : Dv} (ok : v.Ok) : cnt v.d ≤ 55 := by
  show PD.cnt v.1.d + (PD.cnt v.2.d + 0) + 1 ≤ _
  have := ok.1.cnt
  have := ok.2.cnt
  omega
theorem Sv.okD {s : Sv} (h1 : s.1.natAbs < 10 ^ 150) (h2 : s.2.natAbs < 10 ^ 150) (n : Nat) : okD (n + 1) s.d := fun x hx => by
  rcases List.mem_cons.mp hx with rfl | hx
  · cases n <;> exact h1
  · rw [List.mem_singleton.mp hx]
    cases n <;> exact h2
theorem Sv.cnt (s : Sv) : cnt s.d = 3 := rfl
section
variable {c : Cn} {K : PySem.W.Frag} {ds : DS} {pl : List D} {Φ : W → List D → Prop}
theorem eqv_nil (ts : List D) : PyData.eqv (.list ts) (.list []) = decide (ts = []) := by
  cases ts with
  | nil => rfl
  | cons x r => rfl
theorem os_neNil {ts : List D} {p2 : List D} (ok : okD 20 (.list ts)) (h : Φ (.d (.bool (decide (ts ≠ [])))) p2) : OpS c (rNeU K) ds (.list ts) (.list []) p2 Φ :=
  os_neUD (shaped_of ok) rfl (by
    rw [eqv_nil]
    have e : (!decide (ts = [])) = decide (ts ≠ []) := by by_cases z : ts = [] <;> simp [z]
    rw [e]
    exact h)
theorem ite_we {ta tb : TE} {b : Bool} (Q : D → Prop) (h1 : b = true → WE c ta ds pl fun w p => ∃ x, w = .d x ∧ Q x ∧ p = pl) (h2 : b = false → WE c tb ds pl fun w p => ∃ x, w = .d x ∧ Q x ∧ p = pl) (hk : ∀ x, Q x → Φ (.d x) pl) : if b = true then WE c ta ds pl Φ else WE c tb ds pl Φ := by
  cases b with
  | true => exact (h1 rfl).mono fun w p ⟨x, e1, q, e2⟩ => by subst e1; subst e2; exact hk x q
  | false => exact (h2 rfl).mono fun w p ⟨x, e1, q, e2⟩ => by subst e1; subst e2; exact hk x q
theorem ite_ws {t u : TS} {b : Bool} {E : EE} (I : DS → List D → Prop) (h1 : b = true → WS c t ds pl { E with nx := I }) (h2 : b = false → WS c u ds pl { E with nx := I }) (hk : ∀ ds' pl', I ds' pl' → E.nx ds' pl') : if b = true then WS c t ds pl E else WS c u ds pl E := by
  cases b with
  | true => exact ws_mono (h1 rfl) hk (fun _ _ h => h) (fun _ _ h => h) fun _ _ h => h
  | false => exact ws_mono (h2 rfl) hk (fun _ _ h => h) (fun _ _ h => h) fun _ _ h => h
end
theorem flo_low {c : Comb} (ok : c.Ok) (n : Int) : n - 48 ≤ flo c n := by
  have p1 := ok.p1
  have p2 := ok.p24
  have r0 := Int.emod_nonneg n (show c.p ≠ 0 by omega)
  have r1 := Int.emod_lt_of_pos n (show 0 < c.p by omega)
  unfold flo
  split
  · have := ok.low _ (last_mem ok.ne)
    omega
  · rename_i hl
    have := ok.low _ (List.mem_filter.mp (last_mem hl)).1
    unfold lowT
    omega
theorem range_up (n : Nat) : ((List.range n).map fun (i : Nat) => (i : Int)).Pairwise (· < ·) := by
  rw [List.pairwise_map]
  exact List.pairwise_lt_range.imp fun h => by omega
theorem range_in {n : Nat} {t : Int} (h : t ∈ (List.range n).map fun (i : Nat) => (i : Int)) : 0 ≤ t ∧ t < n := by
  obtain ⟨i, hi, rfl⟩ := List.mem_map.mp h
  have := List.mem_range.mp hi
  omega
end PD

/-! PD13: calls with an owned list, new lists by list() and +, a mutated list within a tuple -/
namespace PD
open PySem PySem.Spec PyProof.Rows L2 Evl
section
variable {c : Cn} {K : PySem.W.Frag} {ds : DS} {pl : List D} {Φ : W → List D → Prop} {tr ta' : TA} {te ta tb : TE} {E : XK} {A : Type} {enc : A → List D} {pre : A → Prop} {B : A → Nat} {post : A → D → Prop} {L : Nat} {En : EE}
theorem we_poolE {i : Nat} {p : Addr} (hi : ds[i]? = some (some (.v (.ref p)))) (hp : c.pool = some p)
    (ha : WA c tr ds pl fun xs p1 => ∃ a, xs = enc a ∧ pre a ∧ ∃ n, Pk n p1 ∧ n < L ∧ ∀ d p2, post a d → Pk (n + B a) p2 → Φ (.d d) p2) : WE c (tCall (spO (poolF L enc pre B post)) [] E (tCons (tVar i) tr)) ds pl Φ :=
  we_callO hi hp (ha.mono fun xs p1 ⟨a, e, h, n, q, l, k⟩ => ⟨a, n, e, h, q, l, k⟩) poolF_mono
/-- a new list into a slot -/
theorem HS.newO {G H : Hp} {σ : L2.St} (h1 : HS c G σ H ds pl) {p : Addr} (hp : H p = none) {us : List V} {xs : List D} (f1 : RA G us xs) (i : Nat) : HS c G (σ.set i (some (.ref p))) (upd H p (.lst us)) (ds.set i (some (.o xs))) pl := by
  obtain ⟨n1, n2, n3, n4, n5⟩ := h1.none_of hp
  refine (h1.newH hp).set (w := .o xs) ⟨p, us, rfl, upd_same, f1, n1, n5, n3, n4, n2⟩ fun xs _ j ys q1 q2 => ?_
  obtain ⟨v, e2, p', us, rfl, b1, _⟩ := h1.slots j _ q1
  rw [e2] at q2
  have e3 : p' = p := V.ref.inj (Option.some.inj (Option.some.inj q2))
  rw [e3, hp] at b1
  cases b1
/-- x = list(e) -/
theorem ws_listO {i : Nat} (h : WE c te ds pl (isD fun d p1 => ∃ xs, d = .list xs ∧ En.nx (ds.set i (some (.o xs))) p1)) : WS c (tAsg (tCB (rListQ K) (tCons te tNil)) (gName i)) ds pl En := fun G σ H hs D' f => h G σ H hs _ fun v G1 H1 w p1 h1 e1 f1 g1 => by
  match w, f1, g1 with
  | .d d, f1, ⟨xs, ed, g1⟩ =>
    subst ed
    obtain ⟨p, us, rfl, b1, b2⟩ := RT.list (.inl f1) h1.sub
    exact ⟨p, us, rfl, .inl (SqL.of b1), fun l hl => f.nx G1 _ _ _ p1 (h1.newO hl b2 i) e1 g1⟩
/-- x = a + b of lists -/
theorem ws_catO {i : Nat} (h : WE c ta ds pl (isD fun d p1 => WE c tb ds p1 (isD fun e p2 => ∃ xs ys, d = .list xs ∧ e = .list ys ∧ xs.length + ys.length ≤ sizeLine ∧ En.nx (ds.set i (some (.o (xs ++ ys)))) p2))) : WS c (tAsg (tOp rAddU ta tb) (gName i)) ds pl En := fun G σ H hs D' f => h G σ H hs _ fun v G1 H1 w p1 h1 e1 f1 g1 => by
  match w, f1, g1 with
  | .d d, f1, g1 =>
    refine g1 G1 σ H1 h1 _ fun u G2 H2 w2 p2 h2 e2 f2 g2 => ?_
    match w2, f2, g2 with
    | .d e, f2, g2 =>
      obtain ⟨xs, ys, rfl, rfl, hl, g2⟩ := g2
      obtain ⟨p, us, rfl, b1, b2⟩ := RT.list (.inl (R.up f1 e2)) h2.sub
      obtain ⟨p', us', rfl, b1', b2'⟩ := RT.list (.inl f2) h2.sub
      exact .inr ⟨p, p', us, us', rfl, rfl, b1, b1', by rw [b2.len, b2'.len]; exact hl, fun l hln => f.nx G2 _ _ _ p2 (h2.newO hln (b2.app b2') i) (e1.trans e2) g2⟩
/-- a def is called with a list that is changed later; what it hands back is dropped -/
theorem ws_dropLend {F : List D → (D → Prop) → Prop} {Ek : XK} {ia ib i : Nat} {xs : List D} {x y : D} (h1 : ds[ia]? = some (some (.d x))) (h2 : ds[ib]? = some (some (.d y))) (h3 : ds[i]? = some (some (.o xs))) (hF : F [x, y, .list xs] fun _ => True)
    (mono : ∀ xs k k', F xs k → (∀ d, k d → k' d) → F xs k') (h : En.nx ds pl) : WS c (tDrop (tCall (spP F) [] Ek (tCons (tVar ia) (tCons (tVar ib) (tCons (tVar i) tNil))))) ds pl En := fun G σ H hs D' f => by
  obtain ⟨v1, a1, a2⟩ := hs.slots ia _ h1
  obtain ⟨v2, b1, b2⟩ := hs.slots ib _ h2
  obtain ⟨v3, d1, p, vs, rfl, e1, e2, e3, e4, e5, e6, e7⟩ := hs.slots i _ h3
  have s2 : Ex G (upd G p (.lst vs)) := Ex.new e3
  refine ⟨v1, a1, v2, b1, .ref p, d1, upd G p (.lst vs), [x, y, .list xs], fun a o q => ?_, .cons (R.up a2 s2) (.cons (R.up b2 s2) (.cons (R.lst upd_same (e2.up s2)) .nil)), mono _ _ _ hF fun d _ v G' H' k1 k2 k3 k4 k5 => ?_⟩
  · by_cases z : a = p
    · subst z; rw [upd_same] at q; cases q; exact e1
    · rw [upd_ne z] at q; exact hs.sub a o q
  · exact f.nx G σ H' ds pl (hs.ext k1 (hs.sub.trans k1) (Ex.refl _) fun a o _ q => q) (Ex.refl _) h
theorem HS.off {G H X : Hp} {σ σ' : L2.St} (hs : HS c G σ H ds pl) {p : Addr} (g : G p = none) (h0 : c.H0 p = none) (hn : c.pin p = none) (hp : c.pool ≠ some p) (hh : ¬ c.hd p) (hX : ∀ a o, a ≠ p → H a = some o → X a = some o) : HS c G σ' X (List.replicate σ'.length none) pl := by
  refine ⟨fun a o q => hX a o (fun z => by rw [z, g] at q; cases q) (hs.sub a o q), hs.gh, hs.gq, hs.gn, fun a o q1 q2 => hX a o (fun z => by rw [z, h0] at q2; cases q2) (hs.keep a o q1 q2), fun q z => ?_, fun a o q => hX a o (fun z => by rw [z, hn] at q; cases q) (hs.pin a o q), fun a q => ?_, by rw [List.length_replicate], fun j w q => ?_, fun j k p' xs ys q1 => ?_⟩
  · obtain ⟨c1, c2, vs', c3, c4⟩ := hs.pl q z
    exact ⟨c1, c2, vs', hX _ _ (fun e => hp (e ▸ z)) c3, c4⟩
  · obtain ⟨o, e⟩ := hs.hid a q
    exact ⟨o, hX _ _ (fun e => hh (e ▸ q)) e⟩
  · rw [List.getElem?_replicate] at q
    split at q <;> cases q
  · rw [List.getElem?_replicate] at q1
    split at q1 <;> cases q1
theorem ix_raw {H : Hp} {a : Addr} {xs : List V} {k : Nat} {y : V} {Q : VK} (h : H a = some (.tup xs)) (hk : xs[k]? = some y) (q : Q y H) : rIx K (.ref a) (.int (k : Int)) H Q :=
  .inr (.inl ⟨a, xs, k, y, rfl, rfl, SqT.of h, atI_nat hk, q⟩)
theorem pair_raw {G : Hp} {v : V} {x y : D} (h : R G v (.tuple [x, y])) : ∃ t a b, v = .ref t ∧ G t = some (.tup [a, b]) ∧ R G a x ∧ R G b y := by
  cases h with
  | tup h1 h2 =>
    cases h2 with
    | cons r1 h3 =>
      cases h3 with
      | cons r2 h4 =>
        cases h4
        exact ⟨_, _, _, rfl, h1, r1, r2⟩
/-- a device with a list of teeth that is changed behind it -/
theorem ws_teeth {v : Dv} {s : Sv} {ms : List Int} {F1 : List D → (List D → Prop) → Prop} {F2 F3 : List D → (D → Prop) → Prop} {E1 E2 E3 : XK} {r : D}
    (h2 : ds[2]? = some (some (.d v.d))) (h3 : ds[3]? = some (some (.d s.d))) (h4 : ds[4]? = some (some (.d (.list (ms.map PyData.int))))) (h11 : ds[11]? = some (some (.o (v.1.ts.map PyData.int)))) (h12 : 12 < ds.length)
    (n : Nat) (hn : v.1.p = (n : Int)) (n24 : n ≤ 24) (small : ∀ t ∈ v.1.ts, t.natAbs < 10 ^ 150)
    (hF1 : ∀ k, (∀ d, k d) → F1 [v.d, s.d, .list (ms.map PyData.int)] k)
    (hF2 : F2 [.tuple [.tuple [.int v.1.p, .list (((List.range n).map fun (i : Nat) => (i : Int)).map PyData.int)], v.2.d], s.d, .list (ms.map PyData.int)] fun d => d = r) (m2 : ∀ xs k k', F2 xs k → (∀ d, k d → k' d) → F2 xs k')
    (hF3 : F3 [.tuple [.tuple [.int v.1.p, .list (((List.range n).map fun (i : Nat) => (i : Int)).map PyData.int)], v.2.d], s.d, .list (ms.map PyData.int)] fun d => d = r) (m3 : ∀ xs k k', F3 xs k → (∀ d, k d → k' d) → F3 xs k')
    (hr : okD 20 r) (h : En.rt (.d (.bool true)) pl) :
    WS c (tSeq (tAsg (tTup (tCons (tTup (tCons (tOp (rIx K) (tOp (rIx K) (tVar 2) (tC (.int 0))) (tC (.int 0))) (tCons (tVar 11) tNil))) (tCons (tOp (rIx K) (tVar 2) (tC (.int 1))) tNil))) (gName 12))
      (tSeq (tDrop (tCall (spN F1) [] E1 (tCons (tVar 12) (tCons (tVar 3) (tCons (tVar 4) tNil)))))
      (tSeq (tWhile (tTest (tOp (rNeU K) (tVar 11) (tLst tNil))) (tDrop (tBM0 K "list" rPop (tVar 11))))
      (tSeq (tDrop (tBM K "list" rExtend (tVar 11) (tCons (tLstRg (tRg1 (tOp (rIx K) (tOp (rIx K) (tVar 2) (tC (.int 0))) (tC (.int 0))))) tNil)))
      (tRet (tOp (rEqU K) (tCall (spP F2) [] E2 (tCons (tVar 12) (tCons (tVar 3) (tCons (tVar 4) tNil)))) (tCall (spP F3) [] E3 (tCons (tVar 12) (tCons (tVar 3) (tCons (tVar 4) tNil))))))))))
      ds pl En := fun G σ H hs D' f => by
  obtain ⟨x2, a1, a2⟩ := hs.slots 2 _ h2
  obtain ⟨x3, b1, b2⟩ := hs.slots 3 _ h3
  obtain ⟨x4, d1, d2⟩ := hs.slots 4 _ h4
  obtain ⟨x11, e1, p, us, rfl, q1, q2, q3, q4, q5, q6, q7⟩ := hs.slots 11 _ h11
  obtain ⟨t, va, vb, rfl, ht, ra, rb⟩ := pair_raw (show R G x2 (.tuple [v.1.d, v.2.d]) from a2)
  obtain ⟨ga, u0, vt, rfl, hga, r0, rt⟩ := pair_raw (show R G va (.tuple [.int v.1.p, .list (v.1.ts.map PyData.int)]) from ra)
  cases r0
  have eus := RA.ints q2
  subst eus
  have hlen : 12 < σ.length := by rw [hs.len]; exact h12
  refine ⟨.ref t, a1, ix_raw (k := 0) (hs.sub _ _ ht) rfl (ix_raw (k := 0) (hs.sub _ _ hga) rfl ⟨.ref p, e1, by show 2 ≤ sizeLine; decide, fun q1' hq1 => ?_⟩)⟩
  have eH1 : Ex H (upd H q1' (.tup [.int v.1.p, .ref p])) := Ex.new hq1
  refine ⟨.ref t, a1, ix_raw (k := 1) (eH1 _ _ (hs.sub _ _ ht)) rfl ⟨by show 2 ≤ sizeLine; decide, fun q' hq => ?_⟩⟩
  have eH2 : Ex (upd H q1' (.tup [.int v.1.p, .ref p])) (upd (upd H q1' (.tup [.int v.1.p, .ref p])) q' (.tup [.ref q1', vb])) := Ex.new hq
  have nq1 : q1' ≠ p := fun z => by rw [z, q1] at hq1; cases hq1
  have nq : q' ≠ p := fun z => by rw [z, eH1 _ _ q1] at hq; cases hq
  have nqq : q1' ≠ q' := fun z => by rw [← z, upd_same] at hq; cases hq
  have g1 : G q1' = none := (hs.none_of hq1).1
  have hq0 : H q' = none := by rw [upd_ne (Ne.symm nqq)] at hq; exact hq
  have g2 : G q' = none := (hs.none_of hq0).1
  have X1 : Ex H (upd (upd H q1' (.tup [.int v.1.p, .ref p])) q' (.tup [.ref q1', vb])) := eH1.trans eH2
  have Xq : (upd (upd H q1' (.tup [.int v.1.p, .ref p])) q' (.tup [.ref q1', vb])) q' = some (.tup [.ref q1', vb]) := upd_same
  have Xq1 : (upd (upd H q1' (.tup [.int v.1.p, .ref p])) q' (.tup [.ref q1', vb])) q1' = some (.tup [.int v.1.p, .ref p]) := eH2 _ _ upd_same
  generalize (upd (upd H q1' (.tup [.int v.1.p, .ref p])) q' (.tup [.ref q1', vb])) = X0 at X1 Xq Xq1
  have s2 : (σ.set 12 (some (.ref q')))[2]? = some (some (.ref t)) := by rw [List.getElem?_set_ne (by decide)]; exact a1
  have s3 : (σ.set 12 (some (.ref q')))[3]? = some (some x3) := by rw [List.getElem?_set_ne (by decide)]; exact b1
  have s4 : (σ.set 12 (some (.ref q')))[4]? = some (some x4) := by rw [List.getElem?_set_ne (by decide)]; exact d1
  have s11 : (σ.set 12 (some (.ref q')))[11]? = some (some (.ref p)) := by rw [List.getElem?_set_ne (by decide)]; exact e1
  have s12 : (σ.set 12 (some (.ref q')))[12]? = some (some (.ref q')) := List.getElem?_set_self hlen
  -- a heap in which only the list has changed
  have good : ∀ {X Y : Hp} {zs : List V}, ((∀ a o, a ≠ p → X0 a = some o → X a = some o) ∧ X p = some (.lst zs)) → Ex X Y → ((∀ a o, a ≠ p → X0 a = some o → Y a = some o) ∧ Y p = some (.lst zs)) := fun h e => ⟨fun a o z q => e _ _ (h.1 a o z q), e _ _ h.2⟩
  have gset : ∀ {X : Hp} {zs ys : List V}, ((∀ a o, a ≠ p → X0 a = some o → X a = some o) ∧ X p = some (.lst zs)) → ((∀ a o, a ≠ p → X0 a = some o → (upd X p (.lst ys)) a = some o) ∧ (upd X p (.lst ys)) p = some (.lst ys)) := fun h => ⟨fun a o z q => by rw [upd_ne z]; exact h.1 a o z q, upd_same⟩
  have gp : ∀ {a : Addr} {o : HO}, G a = some o → a ≠ p := fun q z => by rw [z, q3] at q; cases q
  have gX : ∀ {X : Hp} {zs : List V} {a : Addr} {o : HO}, ((∀ a o, a ≠ p → X0 a = some o → X a = some o) ∧ X p = some (.lst zs)) → G a = some o → X a = some o := fun h q => h.1 _ _ (gp q) (X1 _ _ (hs.sub _ _ q))
  -- the arguments of the calls
  have call : ∀ (X : Hp) (zs : List Int), ((∀ a o, a ≠ p → X0 a = some o → X a = some o) ∧ X p = some (.lst (zs.map V.int))) → ∃ GX, Ex GX X ∧ RA GX [.ref q', x3, x4] [.tuple [.tuple [.int v.1.p, .list (zs.map PyData.int)], v.2.d], s.d, .list (ms.map PyData.int)] := fun X zs hX => by
    have n1 : (upd G p (.lst (zs.map V.int))) q1' = none := by rw [upd_ne nq1]; exact g1
    have n2 : (upd (upd G p (.lst (zs.map V.int))) q1' (.tup [.int v.1.p, .ref p])) q' = none := by rw [upd_ne (Ne.symm nqq), upd_ne nq]; exact g2
    have y1 : Ex G (upd G p (.lst (zs.map V.int))) := Ex.new q3
    have y2 : Ex (upd G p (.lst (zs.map V.int))) (upd (upd G p (.lst (zs.map V.int))) q1' (.tup [.int v.1.p, .ref p])) := Ex.new n1
    have y3 : Ex (upd (upd G p (.lst (zs.map V.int))) q1' (.tup [.int v.1.p, .ref p])) (upd (upd (upd G p (.lst (zs.map V.int))) q1' (.tup [.int v.1.p, .ref p])) q' (.tup [.ref q1', vb])) := Ex.new n2
    have y : Ex G (upd (upd (upd G p (.lst (zs.map V.int))) q1' (.tup [.int v.1.p, .ref p])) q' (.tup [.ref q1', vb])) := (y1.trans y2).trans y3
    refine ⟨_, fun a o q => ?_, .cons (R.tup upd_same (.cons (R.tup (y3 _ _ upd_same) (.cons (R.int _) (.cons (R.lst (y3 _ _ (y2 _ _ upd_same)) (RA.of_ints zs)) .nil))) (.cons (R.up rb y) .nil))) (.cons (R.up b2 y) (.cons (R.up d2 y) .nil))⟩
    by_cases z1 : a = q'
    · subst z1; rw [upd_same] at q; cases q; exact hX.1 _ _ nq Xq
    · rw [upd_ne z1] at q
      by_cases z2 : a = q1'
      · subst z2; rw [upd_same] at q; cases q; exact hX.1 _ _ nq1 Xq1
      · rw [upd_ne z2] at q
        by_cases z3 : a = p
        · subst z3; rw [upd_same] at q; cases q; exact hX.2
        · rw [upd_ne z3] at q; exact gX hX q
  have H0 : ((∀ a o, a ≠ p → X0 a = some o → X0 a = some o) ∧ X0 p = some (.lst (v.1.ts.map V.int))) := ⟨fun _ _ _ q => q, X1 _ _ q1⟩
  obtain ⟨GX, k1, k2⟩ := call X0 v.1.ts H0
  refine ⟨.ref q', s12, x3, s3, x4, s4, GX, _, k1, k2, hF1 _ fun d p' us' G' X' m1' m2' m3' m4' m5' m6' m7' m8' => ?_⟩
  have HX' := good H0 m1'
  clear m1' m2' m3' m4' m5' m6' m7' m8' k1 k2 H0
  -- the loop
  refine ⟨fun m σ' X => σ' = σ.set 12 (some (.ref q')) ∧ m ≤ v.1.ts.length ∧ ((∀ a o, a ≠ p → X0 a = some o → X a = some o) ∧ X p = some (.lst ((v.1.ts.take m).map V.int))), ⟨v.1.ts.length, rfl, Nat.le_refl _, by rw [List.take_length]; exact HX'⟩, ?_⟩
  rintro m σ' X ⟨rfl, hm, hX⟩
  refine ⟨.ref p, s11, Nat.zero_le _, fun l hl => .inl ⟨.list ((v.1.ts.take m).map PyData.int), .list [], ?_, ?_, ?_, ?_, _, rfl, ?_⟩⟩
  · exact R.dp (G := upd X l (.lst [])) _ _ (R.lst (Ex.new hl _ _ hX.2) (RA.of_ints _))
  · exact R.dp (G := upd X l (.lst [])) _ _ (R.lst upd_same .nil)
  · exact shaped_of (okD_ints (n := 19) fun t ht => small t (List.mem_of_mem_take ht))
  · rfl
  have hX2 := good hX (Ex.new (o := .lst []) hl)
  generalize upd X l (.lst []) = X3 at hX2
  rw [eqv_nil]
  by_cases hz : (v.1.ts.take m).map PyData.int = []
  · rw [decide_eq_true hz]
    have hz' : v.1.ts.take m = [] := by simpa using hz
    rw [hz'] at hX2
    show _
    -- extend
    refine ⟨.ref p, s11, Or.inl ⟨rfl, _, SqL.of hX2.2⟩, .ref t, s2, ix_raw (k := 0) (gX hX2 ht) rfl (ix_raw (k := 0) (gX hX2 hga) rfl ⟨v.1.p, rfl, RgOk.of_le (by omega) (by omega) (by omega) (by omega), fun l2 hl2 => ?_⟩)⟩
    have hX4 := good hX2 (Ex.new (o := .lst (rgV 0 v.1.p)) hl2)
    refine ⟨p, l2, _, _, rfl, rfl, hX4.2, upd_same, ?_, ?_⟩
    · rw [rgV_length, hn]
      show 0 + _ ≤ sizeLine
      exact Nat.le_trans (show _ ≤ 100 by omega) (by decide)
    have hX5 := gset (ys := ((List.range n).map fun (i : Nat) => (i : Int)).map V.int) hX4
    rw [hn, rgV_ints]
    rw [hn, rgV_ints] at hX5
    rw [List.map_nil, List.nil_append]
    dsimp only
    generalize upd (upd X3 l2 (.lst (((List.range n).map fun (i : Nat) => (i : Int)).map V.int))) p (.lst (((List.range n).map fun (i : Nat) => (i : Int)).map V.int)) = X5 at hX5
    obtain ⟨GX, k1, k2⟩ := call X5 _ hX5
    refine ⟨.ref q', s12, x3, s3, x4, s4, GX, _, k1, k2, m2 _ _ _ hF2 fun d ed v' G' X' m1' m2' m3' m4' m5' => ?_⟩
    subst ed
    have hX6 := good hX5 m1'
    obtain ⟨GX2, k1', k2'⟩ := call X' _ hX6
    refine ⟨.ref q', s12, x3, s3, x4, s4, GX2, _, k1', k2', m3 _ _ _ hF3 fun d ed v'' G'' X'' m1'' m2'' m3'' m4'' m5'' => ?_⟩
    subst ed
    have hX7 := good hX6 m1''
    refine .inl ⟨d, d, R.dp _ _ (R.up m5' (m2'.trans m1'')), R.dp _ _ (R.up m5'' m2''), shaped_of hr, shaped_of hr, ?_⟩
    rw [eqv_refl d (fine_of hr).lay]
    exact f.rt (.bl true) G (σ.set 12 (some (.ref q'))) X'' _ (.d (.bool true)) pl (hs.off q3 q4 q5 q6 q7 fun a o z q => hX7.1 a o z (X1 _ _ q)) (Ex.refl _) (R.bl true) h
  · rw [decide_eq_false hz]
    have hm0 : 0 < m := by
      rcases Nat.eq_zero_or_pos m with z | z
      · rw [z] at hz; exact absurd rfl hz
      · exact z
    refine ⟨fun σ' X => σ' = σ.set 12 (some (.ref q')) ∧ ((∀ a o, a ≠ p → X0 a = some o → X a = some o) ∧ X p = some (.lst ((v.1.ts.take (m - 1)).map V.int))), fun σ' X hh => ⟨m - 1, by omega, hh.1, by omega, hh.2⟩, ?_⟩
    refine ⟨.ref p, s11, Or.inl ⟨rfl, _, SqL.of hX2.2⟩, p, _, .int (v.1.ts[m - 1]'(by omega)), rfl, rfl, hX2.2, ?_, rfl, ?_⟩
    · rw [List.length_map, List.length_take, Nat.min_eq_left hm, List.getElem?_map, List.getElem?_take_of_lt (by omega), List.getElem?_eq_getElem (by omega)]
      rfl
    · have e : ((v.1.ts.take m).map V.int).dropLast = (v.1.ts.take (m - 1)).map V.int := by
        rw [← List.map_dropLast, List.dropLast_eq_take, List.length_take, List.take_take, Nat.min_eq_left hm, Nat.min_eq_left (by omega)]
      rw [e]
      exact gset hX2
end
end PD

/-! PD14: more mathematics: slices, trails, bounds -/
namespace PD
open PySem PySem.Spec PyProof.Rows L2 Evl
theorem cut_take (xs : List Int) (k : Nat) : cutD (xs.map PyData.int) none (some (k : Int)) = (xs.take k).map PyData.int := by
  unfold cutD
  rw [HT.sIx_nat, HT.sIx_none, List.drop_zero, Nat.sub_zero, List.length_map, List.map_take]
  rw [← List.length_map (f := PyData.int), ← List.take_eq_take_min]
theorem cut_drop (xs : List Int) (k : Nat) : cutD (xs.map PyData.int) (some (k : Int)) none = (xs.drop k).map PyData.int := by
  unfold cutD
  rw [HT.sIx_nat, HT.sIx_none, List.map_drop]
  by_cases h : k ≤ (xs.map PyData.int).length
  · rw [Nat.min_eq_left h]
    exact List.take_of_length_le (by rw [List.length_drop]; exact Nat.le_refl _)
  · rw [Nat.min_eq_right (by omega), List.drop_length, List.drop_of_length_le (by omega), List.take_nil]
theorem last_trail (v : Dv) : ∀ (ms : List Int) (s : Sv), ∃ L : List D, s.d :: (trail v s ms).map Sv.d = L ++ [(mvs v s ms).d]
  | [], s => ⟨[], rfl⟩
  | m :: r, s => by
    obtain ⟨L, e⟩ := last_trail v r (mv v s m)
    exact ⟨s.d :: L, by
      show s.d :: ((mv v s m).d :: (trail v (mv v s m) r).map Sv.d) = _
      rw [e]
      rfl⟩
theorem mv_bound {v : Dv} (ok : v.Ok) (s : Sv) (m : Int) : (mv v s m).1.natAbs ≤ s.1.natAbs + m.natAbs + 48 ∧ (mv v s m).2.natAbs ≤ s.2.natAbs + m.natAbs := by
  have l1 := flo_low ok.1 s.1
  have u1 := (flo_spec ok.1 s.1).1
  have l2 := flo_low ok.2 (s.1 - s.2)
  have u2 := (flo_spec ok.2 (s.1 - s.2)).1
  unfold mv
  by_cases hm : m > 0
  · rw [if_pos hm]
    exact ⟨by show (s.2 + m + max (s.1 - s.2 - m) (flo v.2 (s.1 - s.2))).natAbs ≤ _; omega, by show (s.2 + m).natAbs ≤ _; omega⟩
  · rw [if_neg hm]
    exact ⟨by show (max (s.1 + m) (flo v.1 s.1)).natAbs ≤ _; omega, by show (s.2 + m).natAbs ≤ _; omega⟩
theorem mvs_bound {v : Dv} (ok : v.Ok) (M : Nat) : ∀ (ms : List Int) (s : Sv), (∀ m ∈ ms, m.natAbs ≤ M) → (mvs v s ms).1.natAbs ≤ s.1.natAbs + ms.length * (M + 48) ∧ (mvs v s ms).2.natAbs ≤ s.2.natAbs + ms.length * (M + 48)
  | [], s, _ => by
    show s.1.natAbs ≤ s.1.natAbs + 0 * _ ∧ s.2.natAbs ≤ s.2.natAbs + 0 * _
    omega
  | m :: r, s, h => by
    have h1 := mv_bound ok s m
    have h2 := h m List.mem_cons_self
    have h3 := mvs_bound ok M r (mv v s m) fun x hx => h x (List.mem_cons_of_mem _ hx)
    show (mvs v (mv v s m) r).1.natAbs ≤ s.1.natAbs + (r.length + 1) * (M + 48) ∧ (mvs v (mv v s m) r).2.natAbs ≤ s.2.natAbs + (r.length + 1) * (M + 48)
    rw [Nat.succ_mul]
    omega
theorem trail_bound {v : Dv} (ok : v.Ok) (M : Nat) : ∀ (ms : List Int) (s : Sv), (∀ m ∈ ms, m.natAbs ≤ M) → ∀ x ∈ trail v s ms, x.1.natAbs ≤ s.1.natAbs + ms.length * (M + 48) ∧ x.2.natAbs ≤ s.2.natAbs + ms.length * (M + 48)
  | [], s, _ => fun x hx => by cases hx
  | m :: r, s, h => fun x hx => by
    have h1 := mv_bound ok s m
    have h2 := h m List.mem_cons_self
    show x.1.natAbs ≤ s.1.natAbs + (r.length + 1) * (M + 48) ∧ x.2.natAbs ≤ s.2.natAbs + (r.length + 1) * (M + 48)
    rw [Nat.succ_mul]
    rcases List.mem_cons.mp hx with rfl | hx
    · omega
    · have h3 := trail_bound ok M r (mv v s m) (fun x hx => h x (List.mem_cons_of_mem _ hx)) x hx
      omega
theorem ixN_last (m : Nat) : ixN (m + 1) (-1) = some m := by
  unfold ixN
  rw [if_neg (by decide), if_pos (by omega)]
  congr 1
  omega
theorem set_last (xs : List D) (a b : D) : (xs ++ [a]).set xs.length b = xs ++ [b] := by
  rw [List.set_append_right _ _ (Nat.le_refl _), Nat.sub_self]
  rfl
theorem range_ok {c : Comb} (ok : c.Ok) (n : Nat) (hn : c.p = (n : Int)) : (Comb.mk c.p ((List.range n).map fun (i : Nat) => (i : Int))).Ok := by
  have p1 := ok.p1
  refine ⟨ok.p1, ok.p24, fun e => ?_, fun t ht => (range_in ht).1, fun t ht => by have := (range_in ht).2; show t < c.p; omega, range_up n⟩
  have := congrArg List.length e
  simp at this
  omega
theorem range_held {c : Comb} (ok : c.Ok) (n : Nat) (hn : c.p = (n : Int)) (d : Comb) (s : Sv) : held (Comb.mk c.p ((List.range n).map fun (i : Nat) => (i : Int)), d) s = true := by
  have p1 := ok.p1
  have r0 := Int.emod_nonneg s.1 (show c.p ≠ 0 by omega)
  have r1 := Int.emod_lt_of_pos s.1 (show 0 < c.p by omega)
  have e : caught (Comb.mk c.p ((List.range n).map fun (i : Nat) => (i : Int))) s.1 = true := decide_eq_true (List.mem_map.mpr ⟨(s.1 % c.p).toNat, List.mem_range.mpr (by omega), by show ((s.1 % c.p).toNat : Int) = s.1 % c.p; omega⟩)
  unfold held
  show (caught _ s.1 || _) = true
  rw [e, Bool.true_or]
/-- bounds for states behind up to 40 moves -/
theorem big40 {a b : Nat} {k : Nat} (h1 : a ≤ 10 ^ 41) (h2 : k ≤ 41) (h : b ≤ a + k * (10 ^ 39 + 48)) : b < 10 ^ 150 := by
  have h3 : k * (10 ^ 39 + 48) ≤ 41 * (10 ^ 39 + 48) := Nat.mul_le_mul_right _ h2
  have h4 : 10 ^ 41 + 41 * (10 ^ 39 + 48) < 10 ^ 150 := by decide +kernel
  omega
theorem okD_trail {v : Dv} (ok : v.Ok) {ms : List Int} {s : Sv} (hs1 : s.1.natAbs ≤ 10 ^ 41) (hs2 : s.2.natAbs ≤ 10 ^ 41) (hl : ms.length ≤ 41) (hm : ∀ m ∈ ms, m.natAbs ≤ 10 ^ 39) (n : Nat) : okD (n + 2) (.list ((trail v s ms).map Sv.d)) := fun x hx => by
  obtain ⟨y, hy, rfl⟩ := List.mem_map.mp hx
  have := trail_bound ok _ ms s hm y hy
  exact Sv.okD (big40 hs1 hl this.1) (big40 hs2 hl this.2) n
theorem okD_mvs {v : Dv} (ok : v.Ok) {ms : List Int} {s : Sv} (hs1 : s.1.natAbs ≤ 10 ^ 41) (hs2 : s.2.natAbs ≤ 10 ^ 41) (hl : ms.length ≤ 41) (hm : ∀ m ∈ ms, m.natAbs ≤ 10 ^ 39) (n : Nat) : okD (n + 1) (mvs v s ms).d := by
  have := mvs_bound ok _ ms s hm
  exact Sv.okD (big40 hs1 hl this.1) (big40 hs2 hl this.2) n
theorem cnt_trail (v : Dv) (ms : List Int) (s : Sv) : cnt (.list ((trail v s ms).map Sv.d)) ≤ ms.length * 3 + 1 := by
  show cntA _ + 1 ≤ _
  have := cntA_le (k := 3) ((trail v s ms).map Sv.d) fun x hx => by
    obtain ⟨y, hy, rfl⟩ := List.mem_map.mp hx
    exact Nat.le_refl 3
  rw [List.length_map, trail_len] at this
  omega
section
variable {c : Cn} {K : PySem.W.Frag} {ds : DS} {pl : List D} {σ : L2.St} {E : EE} {t : TS}
theorem ws_forTE {j : Nat} {tl : TE} (P : List D → Prop) (I : Nat → DS → List D → Prop) (h : WE c tl ds pl (isD fun d p1 => ∃ xs, d = .tuple xs ∧ P xs ∧ I 0 ds p1))
    (hs : ∀ xs, P xs → ∀ i x ds' pl', xs[i]? = some x → I i ds' pl' → WS c t (ds'.set j (some (.d x))) pl' { nx := I (i + 1), ct := I (i + 1), bk := E.nx, rt := E.rt }) (hd : ∀ xs, P xs → ∀ ds' pl', I xs.length ds' pl' → E.nx ds' pl') :
    WS c (tFor (iTup K tl) (gName j) t) ds pl E := fun G σ H h0 D' f => h G σ H h0 _ fun v G1 H1 w p1 h1 e1 f1 g1 => by
  match w, f1, g1 with
  | .d d, f1, ⟨xs, ed, hP, g1⟩ =>
    subst ed
    cases f1 with
    | @tup a vs _ a1 b1 =>
    refine ⟨a, rfl, ⟨vs, SqT.of (h1.sub _ _ a1)⟩, for_tup (K := K) (a := a) (xs := vs) (fun i σ' H' => ∃ G' ds' pl', HS c G' σ' H' ds' pl' ∧ Ex G1 G' ∧ I i ds' pl') ⟨G1, ds, p1, h1, Ex.refl _, g1⟩ ?_ ?_ ?_⟩
    · rintro i σ' H' _ ⟨G', ds', pl', h2, e2, _⟩
      exact SqT.of (h2.sub _ _ (e2 _ _ a1))
    · rintro i x σ' H' hx ⟨G', ds', pl', h2, e2, g2⟩
      obtain ⟨d, hd1, hd2⟩ := b1.get' hx
      refine hs xs hP i d ds' pl' hd1 g2 G' _ H' (h2.set (w := .d d) (R.up hd2 e2) fun xs z => by cases z) _ ⟨?_, ?_, ?_, ?_⟩
      · exact fun G3 σ3 H3 ds3 pl3 h3 e3 g3 => ⟨G3, ds3, pl3, h3, e2.trans e3, g3⟩
      · exact fun v G3 σ3 H3 ds3 w3 pl3 h3 e3 q3 g3 => f.rt v G3 σ3 H3 ds3 w3 pl3 h3 ((e1.trans e2).trans e3) q3 g3
      · exact fun G3 σ3 H3 ds3 pl3 h3 e3 g3 => f.nx G3 σ3 H3 ds3 pl3 h3 ((e1.trans e2).trans e3) g3
      · exact fun G3 σ3 H3 ds3 pl3 h3 e3 g3 => ⟨G3, ds3, pl3, h3, e2.trans e3, g3⟩
    · rintro σ' H' ⟨G', ds', pl', h2, e2, g2⟩
      rw [b1.len] at g2
      exact f.nx G' σ' H' ds' pl' h2 (e1.trans e2) (hd xs hP _ _ g2)
end
end PD

/-! PD15: own defs called by name -/
namespace PD
open PySem PySem.Spec PyProof.Rows L2 Evl
/-- how keywords alone bind: in the parameters' own sequence -/
def KB (K : PySem.W.Frag) (fd : FuncData) (ps : List Str) : Prop := ∀ (s : Shared) (ws : List Value), K.In s.heap → ws.length = ps.length → BindsTo s fd ⟨[], ps.zip ws⟩ (ps.zip ws)
/-- some given by their places, the others by name, in the parameters' own sequence -/
def KB2 (K : PySem.W.Frag) (fd : FuncData) (ps ks : List Str) : Prop := ∀ (s : Shared) (us ws : List Value), K.In s.heap → (us ++ ws).length = ps.length → ks.length = ws.length → BindsTo s fd ⟨us, ks.zip ws⟩ (ps.zip (us ++ ws))
section
variable {X : Cx} {k : Nat} {f : Addr} {fd : FuncData} {ps ks : List Str} {sp : Sp} {E : XK} {x : Str} {p pos : Pos} {e : Expr} {es : List Expr} {t tk : TA} {kws : List Keyword}
theorem fg_runK {pins : List (Addr × Obj)} {σ : L2.St} {H : Hp} {s : Shared} {Q : VK} {us ws : List Value} {vs : List V} (hG : X.A.guards = some []) (F : FG X.prog X.w X.K X.mg X.base k f fd ps sp) (hr : Room k X.A)
    (b : BindsTo s fd ⟨us, ks.zip ws⟩ (ps.zip (us ++ ws))) (I : Inv X pins σ H s) (r : Vals vs (us ++ ws)) (h : sp vs H Q E) : wpAny (model X.prog X.w) X.A (call (.ref f) us (ks.zip ws)) (EP X pins σ Q) X.xe s := by
  apply wpAny_call
  refine codeAny_mono (F.goes X.A X.stack s H ⟨us, ks.zip ws⟩ (us ++ ws) vs Q E hG hr I.env0 b r h) ?_
  intro res s2 hq
  match res, hq with
  | .ok (.ret u), hq => exact I.after hq
  | .ok .next, hq => exact hq.elim
  | .ok .brk, hq => exact hq.elim
  | .ok .cont, hq => exact hq.elim
  | .error er, hq => exact hq.elim
/-- f(k = v, ..) -/
theorem pe_callG0K (hG : X.A.guards = some []) (F : FG X.prog X.w X.K X.mg X.base k f fd ps sp) (hr : Room k X.A) (hg : Gl X x) (hm : X.mg x = some (.ref f)) (hk : PySem.W.keepIn X.K (.ref f) = true) (hb : KB X.K fd ps) (hkw : PK X kws tk)
    (hall : (backToKw pos (keywordEach kws X.env)).all (·.1.isSome) = true := by rfl) (hks : (backToKw pos (keywordEach kws X.env)).filterMap (·.1) = ps := by rfl)
    (hdb : (x == ("__debug__" : Str)) = false := by decide) (hpl : ((backTo pos (starEach [] X.env)).any (·.1) || (backToKw pos (keywordEach kws X.env)).any (·.1.isNone)) = false := by rfl) :
    PE X (.Call (.Name x p) [] kws pos) (tCall sp [] E tk) := by
  constructor
  intro pins s σ H Q I h
  apply wpAny_Call_Name_kw
  refine ld_glob I hg hm ?_ hdb
  refine PySem.W.callWith_KW0 (h₀ := X.base) I.ok.mod.kin hk hall ?_ hpl
  refine thn (hkw.run pos pins s σ H _ I h) ?_
  rintro ws s2 ⟨zs, H2, I2, rz, q2⟩
  rw [List.append_nil] at q2
  refine ⟨I2.kIn, ?_⟩
  rw [hks]
  have n1 := F.many _ _ _ _ q2
  have b := hb s2 ws I2.kIn (by rw [← rz.length]; exact n1)
  exact fg_runK (us := []) hG F hr b I2 rz q2
end
/-- arguments and those given by name, put into the parameters' sequence -/
def tMapA (gV : List V → List V → List V) (t tk : TA) : TA := fun σ H Q => t σ H fun vs H1 => tk σ H1 fun zs H2 => Q (gV vs zs) H2
section
variable {X : Cx} {k : Nat} {f : Addr} {fd : FuncData} {ps ks : List Str} {sp : Sp} {E : XK} {x : Str} {p pos : Pos} {e : Expr} {es : List Expr} {t tk : TA} {kws : List Keyword} {g : List Value → List Value → List Value} {gV : List V → List V → List V}
theorem fg_runK2 {pins : List (Addr × Obj)} {σ : L2.St} {H : Hp} {s : Shared} {Q : VK} {us ws : List Value} {vs zs : List V} (hG : X.A.guards = some []) (F : FG X.prog X.w X.K X.mg X.base k f fd ps sp) (hr : Room k X.A)
    (hb : KBinds X.K fd ps ks g gV) (I : Inv X pins σ H s) (r : Vals vs us) (rz : Vals zs ws) (h : sp (gV vs zs) H Q E) : wpAny (model X.prog X.w) X.A (call (.ref f) us (ks.zip ws)) (EP X pins σ Q) X.xe s := by
  have r2 := hb.rel r rz
  have hl : (g us ws).length = ps.length := by rw [← r2.length]; exact F.many _ _ _ _ h
  apply wpAny_call
  refine codeAny_mono (F.goes X.A X.stack s H ⟨us, ks.zip ws⟩ (g us ws) (gV vs zs) Q E hG hr I.env0 (hb.to s us ws I.kIn hl) r2 h) ?_
  intro res s2 hq
  match res, hq with
  | .ok (.ret u), hq => exact I.after hq
  | .ok .next, hq => exact hq.elim
  | .ok .brk, hq => exact hq.elim
  | .ok .cont, hq => exact hq.elim
  | .error er, hq => exact hq.elim
/-- f(e, .., k = v, ..) -/
theorem pe_callGK (hG : X.A.guards = some []) (F : FG X.prog X.w X.K X.mg X.base k f fd ps sp) (hr : Room k X.A) (hg : Gl X x) (hm : X.mg x = some (.ref f)) (hk : PySem.W.keepIn X.K (.ref f) = true) (hb : KBinds X.K fd ps ks g gV) (ha : PA X (e :: es) t) (hkw : PK X kws tk)
    (hall : (backToKw pos (keywordEach kws X.env)).all (·.1.isSome) = true := by rfl) (hks : (backToKw pos (keywordEach kws X.env)).filterMap (·.1) = ks := by rfl)
    (hdb : (x == ("__debug__" : Str)) = false := by decide) (he : starEach (e :: es) X.env = (false, eval e X.env) :: starEach es X.env := by rfl)
    (hpl : ((backTo pos (starEach (e :: es) X.env)).any (·.1) || (backToKw pos (keywordEach kws X.env)).any (·.1.isNone)) = false := by rfl) :
    PE X (.Call (.Name x p) (e :: es) kws pos) (tCall sp [] E (tMapA gV t tk)) := by
  constructor
  intro pins s σ H Q I h
  apply wpAny_Call_Name_kw
  refine ld_glob I hg hm ?_ hdb
  refine PySem.W.callWith_KW (h₀ := X.base) I.ok.mod.kin hk hall (thn (ha.run pos pins s σ H _ I h) ?_) hpl he
  rintro us s1 ⟨vs, H1, I1, r, q⟩
  refine thn (hkw.run pos pins s1 σ H1 _ I1 q) ?_
  rintro ws s2 ⟨zs, H2, I2, rz, q2⟩
  have q3 : sp (gV vs zs) H2 Q E := by
    have q3 : sp (gV vs zs ++ []) H2 Q E := q2
    rw [List.append_nil] at q3
    exact q3
  refine ⟨I2.kIn, ?_⟩
  rw [hks]
  exact fg_runK2 hG F hr hb I2 r rz q3
end
section
variable {c : Cn} {ds : DS} {pl : List D} {t tk : TA} {gV : List V → List V → List V} {Φ : List D → List D → Prop}
theorem wa_map (ha : WA c t ds pl fun xs p1 => WA c tk ds p1 fun ys p2 => ∃ out, (∀ G vs zs, RA G vs xs → RA G zs ys → RA G (gV vs zs) out) ∧ Φ out p2) : WA c (tMapA gV t tk) ds pl Φ := fun G σ H hs Q q =>
  ha G σ H hs _ fun vs G1 H1 xs p1 h1 e1 f1 g1 => g1 G1 σ H1 h1 _ fun zs G2 H2 ys p2 h2 e2 f2 g2 => by
    obtain ⟨out, m, g3⟩ := g2
    exact q _ G2 H2 out p2 h2 (e1.trans e2) (m G2 vs zs (f1.up e2) f2) g3
end
/-- the items at these places -/
def pick {α : Type} (is : List Nat) (ws : List α) : List α := is.filterMap fun i => ws[i]?
theorem vals_pick {zs : List V} {ws : List Value} (r : Vals zs ws) : ∀ is : List Nat, Vals (pick is zs) (pick is ws)
  | [] => .nil
  | i :: is => by
    have ih := vals_pick r is
    unfold pick at ih ⊢
    rw [List.filterMap_cons, List.filterMap_cons]
    cases e : zs[i]? with
    | none => rw [r.none_of e]; exact ih
    | some x =>
      obtain ⟨u, e2, r2⟩ := r.get e
      rw [e2]
      exact .cons r2 ih
theorem RA.pick {G : Hp} {vs : List V} {xs : List D} (r : RA G vs xs) : ∀ is : List Nat, RA G (PD.pick is vs) (PD.pick is xs)
  | [] => .nil
  | i :: is => by
    have ih := RA.pick r is
    unfold PD.pick at ih ⊢
    rw [List.filterMap_cons, List.filterMap_cons]
    cases e : xs[i]? with
    | none =>
      have : vs[i]? = none := List.getElem?_eq_none_iff.mpr (by rw [r.len]; exact List.getElem?_eq_none_iff.mp e)
      rw [this]; exact ih
    | some x =>
      obtain ⟨u, e2, r2⟩ := r.get e
      rw [e2]
      exact .cons r2 ih
def tPick (is : List Nat) (t : TA) : TA := fun σ H Q => t σ H fun vs H1 => Q (pick is vs) H1
/-- how a def binds keywords alone -/
def KwOk (K : PySem.W.Frag) (mg : Str → Option Value) (name : Str) (ps ks : List Str) (is : List Nat) : Prop := ∃ f fd, mg name = some (.ref f) ∧ At0 K f fd ∧
  ∀ (s : Shared) (ws : List Value), (pick is ws).length = ps.length → BindsTo s fd ⟨[], ks.zip ws⟩ (ps.zip (pick is ws))
section
variable {X : Cx} {k : Nat} {ps ks : List Str} {sp : Sp} {E : XK} {x : Str} {p pos : Pos} {tk : TA} {kws : List Keyword} {is : List Nat}
theorem pe_callKP (F : Df X.prog X.w X.K X.mg X.base k x ps sp) (Kw : KwOk X.K X.mg x ps ks is) (hG : X.A.guards = some []) (hr : Room k X.A) (hg : Gl X x) (hkw : PK X kws tk)
    (hall : (backToKw pos (keywordEach kws X.env)).all (·.1.isSome) = true := by rfl) (hks : (backToKw pos (keywordEach kws X.env)).filterMap (·.1) = ks := by rfl)
    (hdb : (x == ("__debug__" : Str)) = false := by decide) (hpl : ((backTo pos (starEach [] X.env)).any (·.1) || (backToKw pos (keywordEach kws X.env)).any (·.1.isNone)) = false := by rfl) :
    PE X (.Call (.Name x p) [] kws pos) (tCall sp [] E0 (tPick is tk)) := by
  obtain ⟨f, fd, G, m, kp, b, oc, od, osl, l1⟩ := F
  obtain ⟨f', fd', m', ⟨oc', od', osl', l1'⟩, hb⟩ := Kw
  have e1 : f' = f := by rw [m] at m'; exact (Value.ref.inj (Option.some.inj m')).symm
  subst e1
  have e2 : fd' = fd := by
    rw [l1] at l1'
    have := Option.some.inj l1'
    injection this with _ _ e3 _
    injection e3 with e4
    exact e4.symm
  subst e2
  constructor
  intro pins s σ H Q I h
  apply wpAny_Call_Name_kw
  refine ld_glob I hg m ?_ hdb
  refine PySem.W.callWith_KW0 (h₀ := X.base) I.ok.mod.kin kp hall ?_ hpl
  refine thn (hkw.run pos pins s σ H _ I h) ?_
  rintro ws s2 ⟨zs, H2, I2, rz, q2⟩
  have q2 : sp (pick is zs) H2 Q E0 := by
    have q3 : sp (pick is zs ++ []) H2 Q E0 := q2
    rw [List.append_nil] at q3
    exact q3
  refine ⟨I2.kIn, ?_⟩
  rw [hks]
  have n1 := G.many _ _ _ _ q2
  have r2 := vals_pick rz is
  have b2 := hb s2 ws (by rw [← r2.length]; exact n1)
  apply wpAny_call
  refine codeAny_mono (G.goes X.A X.stack s2 H2 ⟨[], ks.zip ws⟩ _ _ Q E0 hG hr I2.env0 b2 r2 q2) ?_
  intro res s3 hq
  match res, hq with
  | .ok (.ret u), hq => exact I2.after hq
  | .ok .next, hq => exact hq.elim
  | .ok .brk, hq => exact hq.elim
  | .ok .cont, hq => exact hq.elim
  | .error er, hq => exact hq.elim
end
section
variable {c : Cn} {ds : DS} {pl : List D} {t : TA} {is : List Nat} {Φ : List D → List D → Prop}
theorem wa_pick (h : WA c t ds pl fun xs p => Φ (pick is xs) p) : WA c (tPick is t) ds pl Φ := fun G σ H hs Q q =>
  h G σ H hs _ fun vs G1 H1 xs p1 h1 e1 f1 g1 => q _ G1 H1 _ p1 h1 e1 (f1.pick is) g1
end
end PD

/-! PD16: joined moves -/
namespace PD
open PySem PySem.Spec PyProof.Rows L2 Evl
/-- neighbours of one direction together: the moves so far, then one more -/
def joinR (acc : List Int) (m : Int) : List Int := if acc ≠ [] ∧ (decide (0 < acc.getLastD 0) = decide (0 < m)) then acc.dropLast ++ [acc.getLastD 0 + m] else acc ++ [m]
def joined (ms : List Int) : List Int := ms.foldl joinR []
theorem joined_succ {ms : List Int} {i : Nat} {m : Int} (h : ms[i]? = some m) : joined (ms.take (i + 1)) = joinR (joined (ms.take i)) m := by
  unfold joined
  rw [List.take_add_one, h, List.foldl_append]
  rfl
theorem joinR_len (acc : List Int) (m : Int) : (joinR acc m).length ≤ acc.length + 1 := by
  unfold joinR
  split
  · rw [List.length_append, List.length_dropLast]
    show acc.length - 1 + 1 ≤ _
    omega
  · rw [List.length_append]
    exact Nat.le_refl _
theorem joined_len : ∀ (ms acc : List Int), (ms.foldl joinR acc).length ≤ acc.length + ms.length
  | [], acc => Nat.le_refl _
  | m :: r, acc => by
    have h1 := joined_len r (joinR acc m)
    have h2 := joinR_len acc m
    show (r.foldl joinR (joinR acc m)).length ≤ acc.length + (r.length + 1)
    omega
theorem set_end {acc : List Int} (h : acc ≠ []) (y : Int) : ∃ j, ixN (acc.map PyData.int).length (-1) = some j ∧ (acc.map PyData.int).set j (.int y) = (acc.dropLast ++ [y]).map PyData.int := by
  have h0 : 0 < acc.length := List.length_pos_iff.mpr h
  refine ⟨acc.length - 1, ?_, ?_⟩
  · rw [List.length_map, show acc.length = acc.length - 1 + 1 by omega]
    exact ixN_last _
  · have e : acc = acc.dropLast ++ [acc.getLast h] := (List.dropLast_concat_getLast h).symm
    have l : acc.length - 1 = (acc.dropLast.map PyData.int).length := by rw [List.length_map, List.length_dropLast]
    rw [l]
    conv => lhs; rw [e]
    rw [List.dropLast_concat, List.map_append]
    show (acc.dropLast.map PyData.int ++ [PyData.int (acc.getLast h)]).set (acc.dropLast.map PyData.int).length (PyData.int y) = _
    rw [set_last, List.map_append]
    rfl
theorem tru_ne {acc : List Int} (h : truD (.list (acc.map PyData.int)) = true) : acc ≠ [] := fun e => by
  subst e
  cases h
theorem tru_eq {acc : List Int} (h : ¬ truD (.list (acc.map PyData.int)) = true) : acc = [] := by
  cases acc with
  | nil => rfl
  | cons x r => exact absurd rfl h
theorem joinR_yes {acc : List Int} {m : Int} (h : acc ≠ []) (e : (decide (0 < acc.getLastD 0) == decide (0 < m)) = true) : joinR acc m = acc.dropLast ++ [acc.getLastD 0 + m] := if_pos ⟨h, by simpa using e⟩
theorem joinR_no {acc : List Int} {m : Int} (e : acc = [] ∨ ¬ (decide (0 < acc.getLastD 0) == decide (0 < m)) = true) : joinR acc m = acc ++ [m] := if_neg fun ⟨h1, h2⟩ => by
  rcases e with e | e
  · exact h1 e
  · exact e (by rw [h2]; simp)
section
variable {c : Cn} {K : PySem.W.Frag} {ds : DS} {pl : List D} {Φ : W → List D → Prop} {E : EE}
/-- a, b = [], n -/
theorem ws_par0 {i j : Nat} {n : Int} (h : E.nx ((ds.set i (some (.o []))).set j (some (.d (.int n)))) pl) : WS c (tPar i j (tCons (tLst tNil) (tCons (tC (.int n)) tNil))) ds pl E := fun G σ H hs D' f =>
  ⟨Nat.zero_le _, fun p hp => ⟨_, _, rfl, f.nx G _ _ _ pl ((hs.newO hp .nil i).set (w := .d (.int n)) (R.int n) fun xs z => by cases z) (Ex.refl _) h⟩⟩
theorem os_mulL {xs : List D} {k : Nat} {p2 : List D} (hk : k ≤ 1000) (hl : xs.length * k ≤ sizeLine) (h : Φ (.d (.list (repD xs k))) p2) : OpS c rMulU ds (.list xs) (.int (k : Int)) p2 Φ := fun G σ H v u hs hv hu Q q => by
  have eu := hu.int
  subst eu
  obtain ⟨p, vs, rfl, a, b⟩ := hv.list hs.sub
  refine .inr ⟨p, (k : Int), vs, rfl, rfl, a, by omega, by omega, by rw [Int.toNat_natCast, b.len]; exact hl, fun l hln => ?_⟩
  have n := hs.none_of hln
  rw [Int.toNat_natCast]
  exact q _ _ _ (.d _) p2 (hs.newD hln) (Ex.new n.1) (show R _ (.ref l) (.list (repD xs k)) from .lst upd_same ((b.rep k).up (Ex.new n.1))) h
end
end PD

/-! PD17: defs that hand back new things which their caller changes later -/
namespace PD
open PySem PySem.Spec PyProof.Rows L2 Evl
/-- a statement with given ends -/
def WSK (c : Cn) (t : TS) (ds : DS) (pl : List D) (D' : Ends) (G0 : Hp) : Prop := ∀ G σ H, HS c G σ H ds pl → Ex G0 G → t D' σ H
abbrev onlyNx (k : DS → List D → Prop) : EE := ⟨k, fun _ _ => False, fun _ _ => False, fun _ _ => False⟩
section
variable {c : Cn} {K : PySem.W.Frag} {ds : DS} {pl : List D} {t u : TS} {D' : Ends} {G0 : Hp} {E : EE}
theorem wsk_of_ws (h : WS c t ds pl E) (f : Fits c G0 D' E) : WSK c t ds pl D' G0 := fun G σ H hs e => h G σ H hs D' (f.up e)
theorem ws_of_wsk (h : ∀ G0 D', Fits c G0 D' E → WSK c t ds pl D' G0) : WS c t ds pl E := fun G σ H hs D' f => h G D' f G σ H hs (Ex.refl _)
theorem wsk_seq (h : WS c t ds pl (onlyNx fun ds' pl' => WSK c u ds' pl' D' G0)) : WSK c (tSeq t u) ds pl D' G0 := fun G σ H hs e =>
  h G σ H hs { D' with nx := u D' } ⟨fun G' σ' H' ds' pl' h' e' w => w G' σ' H' h' (e.trans e'), fun _ _ _ _ _ _ _ _ _ _ w => w.elim, fun _ _ _ _ _ _ _ w => w.elim, fun _ _ _ _ _ _ _ w => w.elim⟩
/-- what is pinned besides -/
def Cn.pinP (c : Cn) (P : Hp) : Cn := { c with pin := fun a => match P a with
  | some o => some o
  | none => c.pin a }
/-- these places are no one's -/
def Fresh (c : Cn) (P : Hp) : Prop := ∀ a o, P a = some o → c.H0 a = none ∧ c.pin a = none ∧ ¬ c.hd a ∧ c.pool ≠ some a
/-- what is hidden besides -/
def Cn.hide (c : Cn) (S : Addr → Prop) : Cn := { c with hd := fun a => c.hd a ∨ S a }
theorem pinP_at {P : Hp} {a : Addr} {o : HO} (h : P a = some o) : (c.pinP P).pin a = some o := by unfold Cn.pinP; simp only [h]
theorem pinP_none {P : Hp} {a : Addr} (h : P a = none) : (c.pinP P).pin a = c.pin a := by unfold Cn.pinP; simp only [h]
theorem pinP_or {P : Hp} {a : Addr} {o : HO} (h : (c.pinP P).pin a = some o) : P a = some o ∨ (P a = none ∧ c.pin a = some o) := by
  cases e : P a with
  | some u => rw [pinP_at e] at h; exact .inl (by rw [← h])
  | none => rw [pinP_none e] at h; exact .inr ⟨rfl, h⟩
theorem HS.pinNew {G H H' P : Hp} {σ : L2.St} (h : HS c G σ H ds pl) (e : Ex H H') (hP : ∀ a o, P a = some o → H' a = some o ∧ H a = none) : HS (c.pinP P) G σ H' ds pl := by
  have nP : ∀ {a : Addr} {o : HO}, H a = some o → P a = none := fun {a o} q => by
    cases z : P a with
    | none => rfl
    | some u => rw [(hP a u z).2] at q; cases q
  refine ⟨h.sub.trans e, h.gh, h.gq, fun a o q => ?_, fun a o q1 q2 => e _ _ (h.keep a o q1 q2), fun p z => ?_, fun a o q => ?_, fun a q => ?_, h.len, fun i w q => ?_, h.own⟩
  · rcases pinP_or q with q | ⟨_, q⟩
    · exact (h.none_of (hP a o q).2).1
    · exact h.gn a o q
  · obtain ⟨b1, b2, vs, b3, b4⟩ := h.pl p z
    exact ⟨b1, by rw [pinP_none (nP b3)]; exact b2, vs, e _ _ b3, b4⟩
  · rcases pinP_or q with q | ⟨_, q⟩
    · exact (hP a o q).1
    · exact e _ _ (h.pin a o q)
  · obtain ⟨o, z⟩ := h.hid a q
    exact ⟨o, e _ _ z⟩
  · obtain ⟨v, e1, e2⟩ := h.slots i w q
    refine ⟨v, e1, ?_⟩
    cases w with
    | d x => exact e2
    | v x => exact e2
    | o ys =>
      obtain ⟨p', vs, rfl, a1, a2, a3, a4, a5, a6, a7⟩ := e2
      exact ⟨p', vs, rfl, e _ _ a1, a2, a3, a4, by rw [pinP_none (nP a1)]; exact a5, a6, a7⟩
/-- from pinned to hidden, whatever stands there now -/
theorem HS.unpin {G H H' P : Hp} {σ : L2.St} (h : HS (c.pinP P) G σ H ds pl) (fresh : ∀ a o, P a = some o → c.H0 a = none ∧ c.pin a = none) (e : ∀ a, P a = none → H' a = H a) (e2 : ∀ a o, P a = some o → ∃ u, H' a = some u) : HS (c.hide fun a => ∃ o, P a = some o) G σ H' ds pl := by
  have pn : ∀ {a : Addr}, (c.pinP P).pin a = none → P a = none ∧ c.pin a = none := fun {a} q => by
    cases z : P a with
    | none => rw [pinP_none z] at q; exact ⟨rfl, q⟩
    | some u => rw [pinP_at z] at q; cases q
  refine ⟨fun a o q => ?_, fun a q => ?_, h.gq, fun a o q => ?_, fun a o q1 q2 => ?_, fun p z => ?_, fun a o q => ?_, fun a q => ?_, h.len, fun i w q => ?_, h.own⟩
  · cases z : P a with
    | none => rw [e a z]; exact h.sub a o q
    | some u => rw [h.gn a u (pinP_at z)] at q; cases q
  · rcases q with q | ⟨o, q⟩
    · exact h.gh a q
    · exact h.gn a o (pinP_at q)
  · cases z : P a with
    | none => exact h.gn a o (by rw [pinP_none z]; exact q)
    | some u => exact h.gn a u (pinP_at z)
  · cases z : P a with
    | none => rw [e a z]; exact h.keep a o q1 q2
    | some u =>
      have q3 : c.H0 a = some o := q2
      rw [(fresh a u z).1] at q3; cases q3
  · obtain ⟨b1, b2, vs, b3, b4⟩ := h.pl p z
    obtain ⟨b5, b6⟩ := pn b2
    refine ⟨fun q => q.elim b1 fun ⟨o, q⟩ => ?_, b6, vs, ?_, b4⟩
    · rw [b5] at q; cases q
    · rw [e p b5]; exact b3
  · cases z : P a with
    | none => rw [e a z]; exact h.pin a o (by rw [pinP_none z]; exact q)
    | some u =>
      have q3 : c.pin a = some o := q
      rw [(fresh a u z).2] at q3; cases q3
  · rcases q with q | ⟨o, q⟩
    · obtain ⟨o, z⟩ := h.hid a q
      cases y : P a with
      | none => exact ⟨o, by rw [e a y]; exact z⟩
      | some u => exact e2 a u y
    · exact e2 a o q
  · obtain ⟨v, e1, e3⟩ := h.slots i w q
    refine ⟨v, e1, ?_⟩
    cases w with
    | d x => exact e3
    | v x => exact e3
    | o ys =>
      obtain ⟨p', vs, rfl, a1, a2, a3, a4, a5, a6, a7⟩ := e3
      obtain ⟨b5, b6⟩ := pn a5
      exact ⟨p', vs, rfl, by rw [e p' b5]; exact a1, a2, a3, a4, b6, a6, fun q => q.elim a7 fun ⟨o, q⟩ => by rw [b5] at q; cases q⟩
theorem HS.unhide {G H : Hp} {σ : L2.St} {S : Addr → Prop} (h : HS (c.hide S) G σ H ds pl) : HS c G σ H ds pl := by
  refine ⟨h.sub, fun a q => h.gh a (.inl q), h.gq, h.gn, h.keep, fun p z => ?_, h.pin, fun a q => h.hid a (.inl q), h.len, fun i w q => ?_, h.own⟩
  · obtain ⟨b1, b2, vs, b3, b4⟩ := h.pl p z
    exact ⟨fun q => b1 (.inl q), b2, vs, b3, b4⟩
  · obtain ⟨v, e1, e3⟩ := h.slots i w q
    refine ⟨v, e1, ?_⟩
    cases w with
    | d x => exact e3
    | v x => exact e3
    | o ys =>
      obtain ⟨p', vs, rfl, a1, a2, a3, a4, a5, a6, a7⟩ := e3
      exact ⟨p', vs, rfl, a1, a2, a3, a4, a5, a6, fun q => a7 (.inl q)⟩
theorem Fits.hide {S : Addr → Prop} (f : Fits c G0 D' E) : Fits (c.hide S) G0 D' E := by
  refine ⟨fun G' σ' H' ds' pl' h e w => f.nx G' σ' H' ds' pl' h.unhide e w, fun v G' σ' H' ds' w pl' h e q z => f.rt v G' σ' H' ds' w pl' h.unhide e ?_ z, fun G' σ' H' ds' pl' h e w => f.bk G' σ' H' ds' pl' h.unhide e w, fun G' σ' H' ds' pl' h e w => f.ct G' σ' H' ds' pl' h.unhide e w⟩
  cases w with
  | d x => exact q
  | v x => exact q
  | o ys =>
    obtain ⟨p', vs, rfl, a1, a2, a3, a4, a5, a6, a7⟩ := q
    exact ⟨p', vs, rfl, a1, a2, a3, a4, a5, a6, fun q => a7 (.inl q)⟩
end

/-! ### a promise of new things: P is what is new -/
def spW (F : List D → (Hp → V → Prop) → Prop) : Sp := fun vs H Q _ => ∃ G ds, Ex G H ∧ RA G vs ds ∧ F ds fun P v => ∀ H', Ex H H' → Ex P H' → (∀ a o, P a = some o → H a = none) → Q v H'
section
variable {c : Cn} {K : PySem.W.Frag} {ds : DS} {pl : List D} {tr : TA} {t u : TS} {D' : Ends} {G0 : Hp} {E : XK} {F : List D → (Hp → V → Prop) → Prop} {Φ : W → List D → Prop}
theorem HS.setV {G H : Hp} {σ : L2.St} (h : HS c G σ H ds pl) (i : Nat) (v : V) : HS c G (σ.set i (some v)) H (ds.set i (some (.v v))) pl := h.set (w := .v v) rfl fun xs z => by cases z
theorem wsk_callW {i : Nat} (ha : WA c tr ds pl fun xs p1 => F xs fun P v => Fresh c P → WSK (c.pinP P) u (ds.set i (some (.v v))) p1 D' G0) (mono : ∀ xs k k', F xs k → (∀ P v, k P v → k' P v) → F xs k') :
    WSK c (tSeq (tAsg (tCall (spW F) [] E tr) (gName i)) u) ds pl D' G0 := fun G σ H hs e =>
  ha G σ H hs _ fun vs G1 H1 xs p1 h1 e1 f1 g1 => by
    rw [List.append_nil]
    refine ⟨G1, xs, h1.sub, f1, mono xs _ _ g1 fun P v hk H' a1 a2 a3 => ?_⟩
    refine hk (fun a o q => ?_) G1 _ H' ((h1.pinNew a1 fun a o q => ⟨a2 a o q, a3 a o q⟩).setV i v) (e.trans e1)
    have n := h1.none_of (a3 a o q)
    exact ⟨n.2.2.2.2, n.2.2.1, n.2.1, n.2.2.2.1⟩
/-- new things as data -/
theorem we_callW (ha : WA c tr ds pl fun xs p1 => F xs fun P v => ∃ d, R P v d ∧ Φ (.d d) p1) (mono : ∀ xs k k', F xs k → (∀ P v, k P v → k' P v) → F xs k') : WE c (tCall (spW F) [] E tr) ds pl Φ := fun G σ H hs Q q =>
  ha G σ H hs _ fun vs G1 H1 xs p1 h1 e1 f1 g1 => by
    rw [List.append_nil]
    refine ⟨G1, xs, h1.sub, f1, mono xs _ _ g1 fun P v ⟨d, hd, hk⟩ H' a1 a2 a3 => ?_⟩
    have gP : ∀ {a : Addr} {o : HO}, P a = some o → G1 a = none := fun {a o} z => (h1.none_of (a3 a o z)).1
    let G2 : Hp := fun a => match P a with
      | some o => some o
      | none => G1 a
    have s1 : Ex G1 G2 := fun a o z => by
      show (match P a with | some o => some o | none => G1 a) = some o
      cases y : P a with
      | some u => rw [gP y] at z; cases z
      | none => exact z
    have s2 : Ex P G2 := fun a o z => by
      show (match P a with | some o => some o | none => G1 a) = some o
      rw [z]
    refine q v G2 H' (.d d) p1 (h1.ext a1 (fun a o z => ?_) s1 fun a o z1 z2 => ?_) (e1.trans s1) (R.up hd s2) hk
    · have z' : (match P a with | some o => some o | none => G1 a) = some o := z
      cases y : P a with
      | some u => rw [y] at z'; exact a2 a o (by rw [y]; exact z')
      | none => rw [y] at z'; exact a1 _ _ (h1.sub _ _ z')
    · show (match P a with | some o => some o | none => G1 a) = none
      cases y : P a with
      | some u => rw [a3 a u y] at z1; cases z1
      | none => exact z2
end
section
variable {P : Program} {w : World} {K : PySem.W.Frag} {mg : Str → Option Value} {base : Heap} {k : Nat} {f : Addr} {fd : FuncData} {ps : List Str}
theorem fgW {F : List D → (Hp → V → Prop) → Prop} {x qual : Str} {st : Stmt} {N : List Str} (Fn : Fun K x qual st f fd) (S : FnScope N ps (defScope st)) (len : ∀ ds k, F ds k → ds.length = ps.length)
    (go : ∀ (cdv : Value) (B : Around) (fr : List Env) (s : Shared) (H : Hp) (E : XK), B.guards = some [] → Room k (B.deeper (envOfC qual (defScope st) s.heap.objs.size f cdv)) → ∃ t, PSs (cxOf CX0 P w K mg base N qual (defScope st) f cdv B fr s H E).nox (defBody st) t ∧
      ∀ (c : Cn) ds (k : Hp → V → Prop), c.pool = none → F ds k → ∀ (D' : Ends) (G0 : Hp), (∀ P v H', k P v → Ex c.H0 H' → Ex P H' → (∀ a o, P a = some o → c.H0 a = none) → D'.rt v H') → WSK c t (slotsD N ds) [] D' G0) : FG P w K mg base (k + 1) f fd ps (spW F) := by
  refine fg_of Fn S (fun vs H Q E h => ?_) fun cdv B fr s H vs Q E hg hr h => ?_
  · obtain ⟨G, ds, s1, r, h⟩ := h
    rw [r.len]
    exact len _ _ h
  · obtain ⟨t, der, body⟩ := go cdv B fr s H E hg hr
    refine ⟨t, der, ?_⟩
    obtain ⟨G, ds, s0, r, h⟩ := h
    exact body _ ds _ rfl h { nx := fun _ H' => Q .non H', rt := Q } G (fun P v H' hk a1 a2 a3 => hk H' a1 a2 a3) G _ H (hs_start s0 r) (Ex.refl _)
end

/-! ### combs copied, devices mirrored -/
def combP (c : Comb) (a la : Addr) : Hp := fun b => if b = a then some (.tup [.int c.p, .ref la]) else if b = la then some (.lst (c.ts.map V.int)) else none
theorem combP_r {c : Comb} {a la : Addr} (n : a ≠ la) : R (combP c a la) (.ref a) c.d := by
  refine .tup (xs := [.int c.p, .ref la]) (if_pos rfl) (.cons (.int _) (.cons (.lst (xs := c.ts.map V.int) ?_ (RA.of_ints _)) .nil))
  unfold combP
  rw [if_neg (Ne.symm n), if_pos rfl]
def copyF : List D → (Hp → V → Prop) → Prop := fun ds k => ∃ c : Comb, ds = [c.d] ∧ ∀ a la, a ≠ la → k (combP c a la) (.ref a)
theorem copyF_mono : ∀ xs k k', copyF xs k → (∀ P v, k P v → k' P v) → copyF xs k' := fun _ _ _ ⟨c, e, h⟩ g => ⟨c, e, fun a la n => g _ _ (h a la n)⟩
/-- both together -/
def orP (P P' : Hp) : Hp := fun a => match P a with
  | some o => some o
  | none => P' a
theorem orP_l {P P' : Hp} : Ex P (orP P P') := fun a o z => by unfold orP; rw [z]
theorem orP_r {P P' : Hp} (d : ∀ a o, P' a = some o → P a = none) : Ex P' (orP P P') := fun a o z => by unfold orP; rw [d a o z]; exact z
theorem orP_or {P P' : Hp} {a : Addr} {o : HO} (h : orP P P' a = some o) : P a = some o ∨ P' a = some o := by
  unfold orP at h
  cases e : P a with
  | some u => rw [e] at h; exact .inl h
  | none => rw [e] at h; exact .inr h
structure Mir (v : Dv) (t a b la lb : Addr) : Prop where
  n1 : a ≠ la
  n2 : b ≠ lb
  n3 : la ≠ lb
  n4 : a ≠ b
  n5 : a ≠ lb
  n6 : b ≠ la
  n7 : t ≠ a
  n8 : t ≠ b
  n9 : t ≠ la
  n10 : t ≠ lb
def mirP (v : Dv) (t a b la lb : Addr) : Hp := fun x => if x = t then some (.tup [.ref a, .ref b]) else orP (combP v.2 a la) (combP v.1 b lb) x
def mirF : List D → (Hp → V → Prop) → Prop := fun ds k => ∃ v : Dv, ds = [v.d] ∧ v.Ok ∧ ∀ t a b la lb, Mir v t a b la lb → k (mirP v t a b la lb) (.ref t)
theorem mirF_mono : ∀ xs k k', mirF xs k → (∀ P v, k P v → k' P v) → mirF xs k' := fun _ _ _ ⟨c, e, o, h⟩ g => ⟨c, e, o, fun t a b la lb n => g _ _ (h t a b la lb n)⟩
theorem combP_some {c : Comb} {a la x : Addr} {o : HO} (h : combP c a la x = some o) : x = a ∨ x = la := by
  unfold combP at h
  by_cases e : x = a
  · exact .inl e
  · by_cases e2 : x = la
    · exact .inr e2
    · rw [if_neg e, if_neg e2] at h; cases h
section
variable {v : Dv} {t a b la lb : Addr} (m : Mir v t a b la lb)
include m
theorem Mir.at_t : mirP v t a b la lb t = some (.tup [.ref a, .ref b]) := if_pos rfl
theorem Mir.at_a : mirP v t a b la lb a = some (.tup [.int v.2.p, .ref la]) := by
  unfold mirP orP combP
  rw [if_neg (Ne.symm m.n7), if_pos rfl]
theorem Mir.at_la : mirP v t a b la lb la = some (.lst (v.2.ts.map V.int)) := by
  unfold mirP orP combP
  rw [if_neg (Ne.symm m.n9), if_neg (Ne.symm m.n1), if_pos rfl]
theorem Mir.at_b : mirP v t a b la lb b = some (.tup [.int v.1.p, .ref lb]) := by
  unfold mirP orP combP
  rw [if_neg (Ne.symm m.n8), if_neg (Ne.symm m.n4), if_neg m.n6, if_pos rfl]
theorem Mir.at_lb : mirP v t a b la lb lb = some (.lst (v.1.ts.map V.int)) := by
  unfold mirP orP combP
  rw [if_neg (Ne.symm m.n10), if_neg (Ne.symm m.n5), if_neg (Ne.symm m.n3), if_neg (Ne.symm m.n2), if_pos rfl]
theorem Mir.r : R (mirP v t a b la lb) (.ref t) (Dv.d (v.2, v.1)) :=
  .tup m.at_t (.cons (.tup m.at_a (.cons (.int _) (.cons (.lst m.at_la (RA.of_ints _)) .nil))) (.cons (.tup m.at_b (.cons (.int _) (.cons (.lst m.at_lb (RA.of_ints _)) .nil))) .nil))
theorem Mir.all {x : Addr} {o : HO} (h : mirP v t a b la lb x = some o) : x = t ∨ x = a ∨ x = la ∨ x = b ∨ x = lb := by
  unfold mirP at h
  by_cases e : x = t
  · exact .inl e
  · rw [if_neg e] at h
    rcases orP_or h with h | h
    · rcases combP_some h with h | h
      · exact .inr (.inl h)
      · exact .inr (.inr (.inl h))
    · rcases combP_some h with h | h
      · exact .inr (.inr (.inr (.inl h)))
      · exact .inr (.inr (.inr (.inr h)))
end
end PD

/-! PD18: pinned things lent to an expression, changed; owned lists lent to a test -/
namespace PD
open PySem PySem.Spec PyProof.Rows L2 Evl
theorem ra_flat {G G' : Hp} {vs : List V} {n : Nat} {pl : List D} (h : Pk n pl) (r : RA G vs pl) : RA G' vs pl := by
  obtain ⟨a, b, c, rfl, _⟩ := h
  have e : [PyData.int a, PyData.int b, PyData.int c] = [a, b, c].map PyData.int := rfl
  rw [e] at r ⊢
  rw [r.ints]
  exact RA.of_ints _
section
variable {c : Cn} {K : PySem.W.Frag} {ds : DS} {pl : List D} {t u : TS} {D' : Ends} {G0 : Hp} {E : EE} {Φ : W → List D → Prop} {tt : TT} {te : TE}
theorem HS.unpinP {G H P : Hp} {σ : L2.St} (h : HS (c.pinP P) G σ H ds pl) (F : Fresh c P) : HS c G σ H ds pl := by
  have pn : ∀ {a : Addr}, (c.pinP P).pin a = none → c.pin a = none := fun {a} q => by
    cases z : P a with
    | none => rw [pinP_none z] at q; exact q
    | some u => rw [pinP_at z] at q; cases q
  refine ⟨h.sub, h.gh, h.gq, fun a o q => ?_, h.keep, fun p z => ?_, fun a o q => ?_, h.hid, h.len, fun i w q => ?_, h.own⟩
  · cases z : P a with
    | none => exact h.gn a o (by rw [pinP_none z]; exact q)
    | some u => exact h.gn a u (pinP_at z)
  · obtain ⟨b1, b2, b3⟩ := h.pl p z
    exact ⟨b1, pn b2, b3⟩
  · cases z : P a with
    | none => exact h.pin a o (by rw [pinP_none z]; exact q)
    | some u => rw [(F a u z).2.1] at q; cases q
  · obtain ⟨v, e1, e3⟩ := h.slots i w q
    refine ⟨v, e1, ?_⟩
    cases w with
    | d x => exact e3
    | v x => exact e3
    | o ys =>
      obtain ⟨p', vs, rfl, a1, a2, a3, a4, a5, a6, a7⟩ := e3
      exact ⟨p', vs, rfl, a1, a2, a3, a4, pn a5, a6, a7⟩
theorem Fits.pinP {P : Hp} (F : Fresh c P) (f : Fits c G0 D' E) : Fits (c.pinP P) G0 D' E := by
  refine ⟨fun G' σ' H' ds' pl' h e w => f.nx G' σ' H' ds' pl' (h.unpinP F) e w, fun v G' σ' H' ds' w pl' h e q z => f.rt v G' σ' H' ds' w pl' (h.unpinP F) e ?_ z, fun G' σ' H' ds' pl' h e w => f.bk G' σ' H' ds' pl' (h.unpinP F) e w, fun G' σ' H' ds' pl' h e w => f.ct G' σ' H' ds' pl' (h.unpinP F) e w⟩
  cases w with
  | d x => exact q
  | v x => exact q
  | o ys =>
    obtain ⟨p', vs, rfl, a1, a2, a3, a4, a5, a6, a7⟩ := q
    refine ⟨p', vs, rfl, a1, a2, a3, a4, ?_, a6, a7⟩
    cases z : P p' with
    | none => rw [pinP_none z] at a5; exact a5
    | some u => rw [pinP_at z] at a5; cases a5
/-- a pinned list grows -/
theorem wsk_pinApp {P : Hp} {i k0 : Nat} {tp a la : Addr} {ys us : List V} {y0 x : V} (hi : ds[i]? = some (some (.v (.ref tp)))) (F : Fresh c P) (h1 : P tp = some (.tup ys)) (h2 : ys[k0]? = some (.ref a)) (h3 : P a = some (.tup [y0, .ref la])) (h4 : P la = some (.lst us)) (hl : us.length < sizeLine)
    (h : Fresh c (upd P la (.lst (us ++ [x]))) → WSK (c.pinP (upd P la (.lst (us ++ [x])))) u ds pl D' G0) :
    WSK (c.pinP P) (tSeq (tDrop (tBM K "list" rAppend (tOp (rIx K) (tOp (rIx K) (tVar i) (tC (.int (k0 : Int)))) (tC (.int 1))) (tCons (tC x) tNil))) u) ds pl D' G0 := fun G σ H hs e => by
  obtain ⟨v, e1, e2⟩ := hs.slots i _ hi
  have e2' : v = .ref tp := e2
  subst e2'
  have p1 := hs.pin _ _ (pinP_at h1)
  have p3 := hs.pin _ _ (pinP_at h3)
  have p4 := hs.pin _ _ (pinP_at h4)
  refine ⟨_, e1, ix_raw (k := k0) p1 h2 (ix_raw (k := 1) p3 rfl ⟨.inl ⟨rfl, us, SqL.of p4⟩, la, us, _, rfl, rfl, p4, hl, ?_⟩)⟩
  have F' : Fresh c (upd P la (.lst (us ++ [x]))) := fun b o q => by
    by_cases z : b = la
    · subst z; exact F _ _ h4
    · rw [upd_ne z] at q; exact F _ _ q
  have nn : ∀ {b : Addr}, (c.pinP P).pin b = none → b ≠ la ∧ (c.pinP (upd P la (.lst (us ++ [x])))).pin b = none := fun {b} q => by
    have n : b ≠ la := fun z => by rw [z, pinP_at h4] at q; cases q
    refine ⟨n, ?_⟩
    cases z : P b with
    | none => rw [pinP_none z] at q; rw [pinP_none (by rw [upd_ne n]; exact z)]; exact q
    | some u => rw [pinP_at z] at q; cases q
  refine h F' G σ _ ⟨fun b o q => ?_, hs.gh, hs.gq, fun b o q => ?_, fun b o q1 q2 => ?_, fun p z => ?_, fun b o q => ?_, fun b q => ?_, hs.len, fun j w q => ?_, hs.own⟩ e
  · rw [upd_ne (fun z => by rw [z, hs.gn _ _ (pinP_at h4)] at q; cases q)]; exact hs.sub b o q
  · rcases pinP_or q with q | ⟨_, q⟩
    · by_cases z : b = la
      · subst z; exact hs.gn _ _ (pinP_at h4)
      · rw [upd_ne z] at q; exact hs.gn _ _ (pinP_at q)
    · cases z : P b with
      | none => exact hs.gn b o (by rw [pinP_none z]; exact q)
      | some u => exact hs.gn b u (pinP_at z)
  · rw [upd_ne (fun z => by have q3 : c.H0 b = some o := q2; rw [z, (F _ _ h4).1] at q3; cases q3)]; exact hs.keep b o q1 q2
  · obtain ⟨b1, b2, vs, b3, b4⟩ := hs.pl p z
    obtain ⟨n1, n2⟩ := nn b2
    exact ⟨b1, n2, vs, by rw [upd_ne n1]; exact b3, b4⟩
  · rcases pinP_or q with q | ⟨q0, q⟩
    · by_cases z : b = la
      · subst z; rw [upd_same] at q ⊢; exact q
      · rw [upd_ne z] at q ⊢; exact hs.pin _ _ (pinP_at q)
    · have n : b ≠ la := fun z => by subst z; rw [upd_same] at q0; cases q0
      rw [upd_ne n] at q0 ⊢
      exact hs.pin b o (by rw [pinP_none q0]; exact q)
  · by_cases z : b = la
    · subst z; exact ⟨_, upd_same⟩
    · rw [upd_ne z]; exact hs.hid b q
  · obtain ⟨v, d1, d2⟩ := hs.slots j w q
    refine ⟨v, d1, ?_⟩
    cases w with
    | d x => exact d2
    | v x => exact d2
    | o zs =>
      obtain ⟨p', vs, rfl, a1, a2, a3, a4, a5, a6, a7⟩ := d2
      obtain ⟨n1, n2⟩ := nn a5
      exact ⟨p', vs, rfl, by rw [upd_ne n1]; exact a1, a2, a3, a4, n2, a6, a7⟩
/-- pinned things read as data -/
theorem HS.lendP {G H P : Hp} {σ : L2.St} {i : Nat} {v : V} {d : D} (h : HS (c.pinP P) G σ H ds pl) (F : Fresh c P) (hi : ds[i]? = some (some (.v v))) (r : R P v d) (no : ∀ (j : Nat) (ys : List D), ds[j]? ≠ some (some (W.o ys))) : Ex G (orP P G) ∧ HS c (orP P G) σ H (ds.set i (some (.d d))) pl := by
  have dj : ∀ a o, G a = some o → P a = none := fun a o q => by
    cases z : P a with
    | none => rfl
    | some u => rw [h.gn a u (pinP_at z)] at q; cases q
  have s2 : Ex G (orP P G) := orP_r dj
  refine ⟨s2, fun a o q => ?_, fun a q => ?_, fun a q => ?_, fun a o q => ?_, h.keep, fun p z => ?_, fun a o q => ?_, h.hid, by rw [List.length_set]; exact h.len, fun j w q => ?_, fun j k p xs ys q => ?_⟩
  · rcases orP_or q with q | q
    · exact h.pin a o (pinP_at q)
    · exact h.sub a o q
  · cases z : orP P G a with
    | none => rfl
    | some o =>
      rcases orP_or z with z | z
      · exact absurd q (F a o z).2.2.1
      · rw [h.gh a q] at z; cases z
  · cases z : orP P G a with
    | none => rfl
    | some o =>
      rcases orP_or z with z | z
      · exact absurd q (F a o z).2.2.2
      · rw [h.gq a q] at z; cases z
  · cases z : orP P G a with
    | none => rfl
    | some u =>
      rcases orP_or z with z | z
      · rw [(F a u z).2.1] at q; cases q
      · have : P a = none := dj a u z
        rw [h.gn a o (by rw [pinP_none this]; exact q)] at z; cases z
  · obtain ⟨b1, b2, vs, b3, b4⟩ := (h.unpinP F).pl p z
    exact ⟨b1, b2, vs, b3, b4.up s2⟩
  · exact (h.unpinP F).pin a o q
  · obtain ⟨v0, e1, e2⟩ := h.slots i _ hi
    have e2' : v0 = v := e2
    subst e2'
    by_cases e : i = j
    · subst e
      rw [List.getElem?_set_self (List.getElem?_eq_some_iff.mp hi).1] at q
      cases q
      exact ⟨_, e1, R.up r orP_l⟩
    · rw [List.getElem?_set_ne e] at q
      obtain ⟨v, d1, d2⟩ := h.slots j w q
      refine ⟨v, d1, ?_⟩
      cases w with
      | d x => exact R.up d2 s2
      | v x => exact d2
      | o ys => exact absurd q (no j ys)
  · by_cases e : i = j
    · subst e
      rw [List.getElem?_set_self (List.getElem?_eq_some_iff.mp hi).1] at q
      cases q
    · rw [List.getElem?_set_ne e] at q
      exact absurd q (no j xs)
theorem HS.lentP {G H P G' H' : Hp} {σ : L2.St} {i : Nat} {d : D} {p1 : List D} (h : HS (c.pinP P) G σ H ds pl) (F : Fresh c P) (no : ∀ (j : Nat) (ys : List D), ds[j]? ≠ some (some (W.o ys))) (h2 : HS c G' σ H' (ds.set i (some (.d d))) p1) (e : Ex (orP P G) G') (hk : (∃ n, Pk n p1) ∨ c.pool = none) :
    HS (c.pinP P) G σ H' ds p1 := by
  have dj : ∀ a o, G a = some o → P a = none := fun a o q => by
    cases z : P a with
    | none => rfl
    | some u => rw [h.gn a u (pinP_at z)] at q; cases q
  have s2 : Ex G (orP P G) := orP_r dj
  refine ⟨(s2.trans e).trans h2.sub, h.gh, h.gq, h.gn, h2.keep, fun p z => ?_, fun a o q => ?_, h2.hid, h.len, fun j w q => ?_, h.own⟩
  · obtain ⟨b1, b2, vs, b3, b4⟩ := h2.pl p z
    rcases hk with ⟨n, hk⟩ | hk
    · exact ⟨b1, (h.pl p z).2.1, vs, b3, ra_flat hk b4⟩
    · have z' : c.pool = some p := z
      rw [hk] at z'; cases z'
  · rcases pinP_or q with q | ⟨_, q⟩
    · exact h2.sub _ _ (e _ _ (orP_l a o q))
    · exact h2.pin a o q
  · obtain ⟨v, d1, d2⟩ := h.slots j w q
    refine ⟨v, d1, ?_⟩
    cases w with
    | d x => exact d2
    | v x => exact d2
    | o ys => exact absurd q (no j ys)
theorem wt_pin {P : Hp} {i : Nat} {v : V} {Ψ : Bool → List D → Prop} (d : D) (F : Fresh c P) (hi : ds[i]? = some (some (.v v))) (r : R P v d) (no : ∀ (j : Nat) (ys : List D), ds[j]? ≠ some (some (W.o ys))) (h : WT c tt (ds.set i (some (.d d))) pl fun b p1 => ((∃ n, Pk n p1) ∨ c.pool = none) ∧ Ψ b p1) : WT (c.pinP P) tt ds pl Ψ := fun G σ H hs Q q => by
  obtain ⟨s2, hs2⟩ := hs.lendP F hi r no
  refine h _ σ H hs2 _ fun b G' H' p1 h1 e1 ⟨g1, g2⟩ => ?_
  exact q b G H' p1 (hs.lentP F no h1 e1 g1) (Ex.refl _) g2
/-- .. by an expression of two ints -/
theorem we_pinS {P : Hp} {i : Nat} {v : V} (d : D) (F : Fresh c P) (hi : ds[i]? = some (some (.v v))) (r : R P v d) (no : ∀ (j : Nat) (ys : List D), ds[j]? ≠ some (some (W.o ys))) (noP : ∀ q a b, P q ≠ some (.tup [.int a, .int b])) (h : WE c te (ds.set i (some (.d d))) pl fun w p1 => ((∃ n, Pk n p1) ∨ c.pool = none) ∧ ∃ s : Sv, w = .d s.d ∧ Φ (.d s.d) p1) : WE (c.pinP P) te ds pl Φ := fun G σ H hs Q q => by
  obtain ⟨s2, hs2⟩ := hs.lendP F hi r no
  refine h _ σ H hs2 _ fun x G' H' w p1 h1 e1 f1 ⟨g1, s, ew, g2⟩ => ?_
  subst ew
  have h3 := hs.lentP F no h1 e1 g1
  have f1' : R G' x (.tuple [.int s.1, .int s.2]) := f1
  obtain ⟨y, a, b, rfl, k1, k2, k3⟩ := pair_raw f1'
  cases k2
  cases k3
  have eG : Ex G (upd G y (.tup [.int s.1, .int s.2])) := fun z o qz => by
    by_cases e : z = y
    · subst e
      rw [e1 _ _ (s2 _ _ qz)] at k1
      cases k1
      exact upd_same
    · rw [upd_ne e]; exact qz
  have yP : P y = none := by
    cases z : P y with
    | none => rfl
    | some o =>
      rw [e1 _ _ (orP_l _ _ z)] at k1
      cases k1
      exact absurd z (noP _ _ _)
  refine q (.ref y) (upd G y (.tup [.int s.1, .int s.2])) H' (.d s.d) p1 ?_ eG (show R _ _ (Sv.d s) from .tup upd_same (.cons (.int _) (.cons (.int _) .nil))) g2
  refine ⟨fun z o qz => ?_, fun z qz => ?_, fun z qz => ?_, fun z o qz => ?_, h3.keep, fun p z => ?_, h3.pin, h3.hid, h3.len, fun j w qz => ?_, h3.own⟩
  · by_cases e : z = y
    · subst e; rw [upd_same] at qz; cases qz; exact h1.sub _ _ k1
    · rw [upd_ne e] at qz; exact h3.sub _ _ qz
  · rw [upd_ne (fun e => by subst e; rw [h1.gh _ qz] at k1; cases k1)]; exact h3.gh z qz
  · rw [upd_ne (fun e => by subst e; rw [h1.gq _ qz] at k1; cases k1)]; exact h3.gq z qz
  · have n : z ≠ y := fun e => by
      subst e
      rcases pinP_or qz with qz | ⟨_, qz⟩
      · rw [yP] at qz; cases qz
      · rw [h1.gn _ _ qz] at k1; cases k1
    rw [upd_ne n]; exact h3.gn z o qz
  · obtain ⟨b1, b2, vs, b3, b4⟩ := h3.pl p z
    exact ⟨b1, b2, vs, b3, b4.up eG⟩
  · obtain ⟨v, d1, d2⟩ := h3.slots j w qz
    refine ⟨v, d1, ?_⟩
    cases w with
    | d x => exact R.up d2 eG
    | v x => exact d2
    | o ys => exact absurd qz (no j ys)

/-! ### an owned list lent to a test -/
theorem wt_lend {i : Nat} {xs : List D} {Ψ : Bool → List D → Prop} (hi : ds[i]? = some (some (.o xs))) (only : ∀ (j : Nat) (ys : List D), ds[j]? = some (some (W.o ys)) → j = i) (h : WT c tt (ds.set i (some (.d (.list xs)))) pl fun b p1 => ((∃ n, Pk n p1) ∨ c.pool = none) ∧ Ψ b p1) : WT c tt ds pl Ψ := fun G σ H hs Q q => by
  obtain ⟨v, e1, p, vs, rfl, b1, b2, b3, b4, b5, b6, b7⟩ := hs.slots i _ hi
  have s2 : Ex G (upd G p (.lst vs)) := Ex.new b3
  have hlt : i < ds.length := (List.getElem?_eq_some_iff.mp hi).1
  have hs2 : HS c (upd G p (.lst vs)) σ H (ds.set i (some (.d (.list xs)))) pl := by
    refine ⟨fun a o q => ?_, fun a q => ?_, fun a q => ?_, fun a o q => ?_, hs.keep, fun q z => ?_, hs.pin, hs.hid, by rw [List.length_set]; exact hs.len, fun j w q => ?_, fun j k p' xs' ys q1 => ?_⟩
    · by_cases z : a = p
      · subst z; rw [upd_same] at q; cases q; exact b1
      · rw [upd_ne z] at q; exact hs.sub a o q
    · rw [upd_ne (fun z : a = p => b7 (z ▸ q))]; exact hs.gh a q
    · rw [upd_ne (fun z : a = p => b6 (z ▸ q))]; exact hs.gq a q
    · rw [upd_ne (fun z : a = p => by rw [z, b5] at q; cases q)]; exact hs.gn a o q
    · obtain ⟨c1, c2, vs', c3, c4⟩ := hs.pl q z
      exact ⟨c1, c2, vs', c3, c4.up s2⟩
    · by_cases e : i = j
      · subst e
        rw [List.getElem?_set_self hlt] at q
        cases q
        exact ⟨_, e1, R.lst upd_same (b2.up s2)⟩
      · rw [List.getElem?_set_ne e] at q
        obtain ⟨v, d1, d2⟩ := hs.slots j w q
        refine ⟨v, d1, ?_⟩
        cases w with
        | d x => exact R.up d2 s2
        | v x => exact d2
        | o ys => exact absurd (only j ys q).symm e
    · by_cases e : i = j
      · subst e; rw [List.getElem?_set_self hlt] at q1; cases q1
      · rw [List.getElem?_set_ne e] at q1; exact absurd (only j xs' q1).symm e
  refine h _ σ H hs2 _ fun b G' H' p1 h1 e3 ⟨g1, g2⟩ => ?_
  refine q b G H' p1 ⟨(s2.trans e3).trans h1.sub, hs.gh, hs.gq, hs.gn, h1.keep, fun p' z => ?_, h1.pin, h1.hid, hs.len, fun j w qj => ?_, hs.own⟩ (Ex.refl _) g2
  · obtain ⟨c1, c2, us, c3, c4⟩ := h1.pl p' z
    rcases g1 with ⟨n, g1⟩ | g1
    · exact ⟨c1, c2, us, c3, ra_flat g1 c4⟩
    · rw [g1] at z; cases z
  · by_cases e : i = j
    · subst e
      rw [hi] at qj
      cases qj
      exact ⟨_, e1, p, vs, rfl, h1.sub _ _ (e3 _ _ upd_same), b2, b3, b4, b5, b6, b7⟩
    · obtain ⟨v, d1, d2⟩ := hs.slots j w qj
      refine ⟨v, d1, ?_⟩
      cases w with
      | d x => exact d2
      | v x => exact d2
      | o ys => exact absurd (only j ys qj).symm e
/-- [a, 10 ** e][draw] -/
theorem we_far {i : Nat} {p : Addr} {a e : Int} {Ek : XK} (n : Nat) (hi : ds[i]? = some (some (.v (.ref p)))) (hp : c.pool = some p) (hP : Pk n pl) (hn : n < 9000000) (a1 : 1 ≤ a) (e0 : 0 ≤ e) (e1 : e ≤ 60) (ae : a ≤ 10 ^ e.toNat)
    (k : ∀ far p2, 1 ≤ far → far ≤ 10 ^ e.toNat → Pk (n + 1) p2 → Φ (.d (.int far)) p2) :
    WE c (tOp (rIx K) (tLst (tCons (tC (.int a)) (tCons (tOp (rI CPowW fun i j => .int (i ^ j.toNat)) (tC (.int 10)) (tC (.int e))) tNil))) (tCall (spO drawF) [] Ek (tCons (tVar i) (tCons (tC (.int 2)) tNil)))) ds pl Φ := by
  refine we_op (we_lst (wa_cons (we_int (wa_cons (we_op (we_int (we_int (os_pow (poww e0 (by omega) (by decide +kernel) (by decide +kernel)) ?_))))))))
  refine wa_nil ⟨by show 2 ≤ sizeLine; decide, ?_⟩
  refine we_draw 2 n hi hp (wa_cons (we_int (wa_nil ⟨rfl, ⟨by decide, by decide +kernel⟩, hP, hn, fun v p2 v0 v1 hP2 => ?_⟩)))
  refine os_pick (fun x => ∃ j : Int, x = .int j ∧ 1 ≤ j ∧ j ≤ 10 ^ e.toNat) v0 v1 (fun x hx => ?_) ?_
  · simp only [List.mem_cons, List.not_mem_nil, or_false] at hx
    rcases hx with rfl | rfl
    · exact ⟨_, rfl, a1, ae⟩
    · exact ⟨_, rfl, by have : (0 : Int) < 10 ^ e.toNat := Int.pow_pos (by decide); omega, Int.le_refl _⟩
  · rintro _ ⟨far, rfl, f0, f1⟩
    exact k far p2 f0 f1 hP2
end
end PD

/-! PD19: moves of one direction, joined moves (mathematics) -/
namespace PD
open PySem PySem.Spec PyProof.Rows L2 Evl
theorem flo_uniq {c : Comb} (ok : c.Ok) {n b : Int} (h : IsBelow c n b) : flo c n = b := (flo_spec ok n).uniq h
theorem flo_le {c : Comb} (ok : c.Ok) (n : Int) : flo c n ≤ n := (flo_spec ok n).1
theorem flo_between {c : Comb} (ok : c.Ok) {n m : Int} (h1 : flo c n ≤ m) (h2 : m ≤ n) : flo c m = flo c n := by
  obtain ⟨a1, a2, a3⟩ := flo_spec ok n
  exact flo_uniq ok ⟨h1, a2, fun x x1 x2 => a3 x x1 (by omega)⟩
theorem flo_flo {c : Comb} (ok : c.Ok) (n : Int) : flo c (flo c n) = flo c n := flo_between ok (Int.le_refl _) (flo_le ok n)
theorem flo_caught {c : Comb} (ok : c.Ok) {n : Int} (h : caught c n = true) : flo c n = n := flo_uniq ok ⟨Int.le_refl _, h, fun x x1 x2 => by omega⟩
/-- the catch below never falls -/
theorem flo_mono {c : Comb} (ok : c.Ok) {n m : Int} (h : n ≤ m) : flo c n ≤ flo c m := by
  obtain ⟨a1, a2, a3⟩ := flo_spec ok m
  obtain ⟨b1, b2, b3⟩ := flo_spec ok n
  by_cases z : flo c n ≤ flo c m
  · exact z
  · have := a3 (flo c n) (by omega) (by omega)
    rw [b2] at this
    cases this
theorem mv_up {v : Dv} {s : Sv} {m : Int} (h : 0 < m) : mv v s m = (s.2 + m + max (s.1 - s.2 - m) (flo v.2 (s.1 - s.2)), s.2 + m) := if_pos h
theorem mv_down {v : Dv} {s : Sv} {m : Int} (h : ¬ 0 < m) : mv v s m = (max (s.1 + m) (flo v.1 s.1), s.2 + m) := if_neg h
theorem mv_mv {v : Dv} (ok : v.Ok) (s : Sv) {a b : Int} (ha : a ≠ 0) (h : (0 < a) = (0 < b)) (hb : b ≠ 0) : mv v (mv v s a) b = mv v s (a + b) := by
  by_cases z : 0 < a
  · have zb : 0 < b := by rw [← h]; exact z
    rw [mv_up z, mv_up zb, mv_up (show 0 < a + b by omega)]
    have e : s.2 + a + max (s.1 - s.2 - a) (flo v.2 (s.1 - s.2)) - (s.2 + a) = max (s.1 - s.2 - a) (flo v.2 (s.1 - s.2)) := by omega
    simp only [e]
    have hl := flo_le ok.2 (s.1 - s.2)
    by_cases y : s.1 - s.2 - a ≤ flo v.2 (s.1 - s.2)
    · have e2 : max (s.1 - s.2 - a) (flo v.2 (s.1 - s.2)) = flo v.2 (s.1 - s.2) := by omega
      rw [e2, flo_flo ok.2]
      ext
      · show s.2 + a + b + max (flo v.2 (s.1 - s.2) - b) (flo v.2 (s.1 - s.2)) = s.2 + (a + b) + max (s.1 - s.2 - (a + b)) (flo v.2 (s.1 - s.2)); omega
      · show s.2 + a + b = s.2 + (a + b); omega
    · have e2 : max (s.1 - s.2 - a) (flo v.2 (s.1 - s.2)) = s.1 - s.2 - a := by omega
      rw [e2, flo_between ok.2 (n := s.1 - s.2) (by omega) (by omega)]
      ext
      · show s.2 + a + b + max (s.1 - s.2 - a - b) (flo v.2 (s.1 - s.2)) = s.2 + (a + b) + max (s.1 - s.2 - (a + b)) (flo v.2 (s.1 - s.2)); omega
      · show s.2 + a + b = s.2 + (a + b); omega
  · have zb : ¬ 0 < b := by rw [← h]; exact z
    rw [mv_down z, mv_down zb, mv_down (show ¬ 0 < a + b by omega)]
    have hl := flo_le ok.1 s.1
    by_cases y : s.1 + a ≤ flo v.1 s.1
    · have e2 : max (s.1 + a) (flo v.1 s.1) = flo v.1 s.1 := by omega
      simp only [e2, flo_flo ok.1]
      ext
      · show max (flo v.1 s.1 + b) (flo v.1 s.1) = max (s.1 + (a + b)) (flo v.1 s.1); omega
      · show s.2 + a + b = s.2 + (a + b); omega
    · have e2 : max (s.1 + a) (flo v.1 s.1) = s.1 + a := by omega
      simp only [e2]
      rw [flo_between ok.1 (n := s.1) (by omega) (by omega)]
      ext
      · show max (s.1 + a + b) (flo v.1 s.1) = max (s.1 + (a + b)) (flo v.1 s.1); omega
      · show s.2 + a + b = s.2 + (a + b); omega
theorem joinR_cases (acc : List Int) (m : Int) : (∃ dl l, acc = dl ++ [l] ∧ (decide (0 < l) = decide (0 < m)) ∧ joinR acc m = dl ++ [l + m]) ∨ joinR acc m = acc ++ [m] := by
  unfold joinR
  split
  · rename_i h
    obtain ⟨h1, h2⟩ := h
    refine .inl ⟨acc.dropLast, acc.getLastD 0, ?_, h2, rfl⟩
    have e := (List.dropLast_concat_getLast h1).symm
    have e2 : acc.getLastD 0 = acc.getLast h1 := by rw [List.getLastD_eq_getLast?, List.getLast?_eq_some_getLast h1]; rfl
    rw [e2]; exact e
  · exact .inr rfl
theorem same_sign {a b : Int} (h : decide (0 < a) = decide (0 < b)) : (0 < a) = (0 < b) := by
  by_cases z : 0 < a
  · rw [decide_eq_true z] at h
    simp [z, of_decide_eq_true h.symm]
  · rw [decide_eq_false z] at h
    simp [z, of_decide_eq_false h.symm]
theorem joinR_nz {acc : List Int} {m : Int} (ha : ∀ x ∈ acc, x ≠ 0) (hm : m ≠ 0) : ∀ x ∈ joinR acc m, x ≠ 0 := by
  rcases joinR_cases acc m with ⟨dl, l, rfl, hs, e⟩ | e
  · rw [e]
    intro x hx
    rcases List.mem_append.mp hx with z | z
    · exact ha x (List.mem_append.mpr (.inl z))
    · rw [List.mem_singleton.mp z]
      have l0 := ha l (List.mem_append.mpr (.inr List.mem_cons_self))
      have := same_sign hs
      by_cases y : 0 < l
      · have : 0 < m := by rw [← this]; exact y
        omega
      · have : ¬ 0 < m := by rw [← this]; exact y
        omega
  · rw [e]
    intro x hx
    rcases List.mem_append.mp hx with z | z
    · exact ha x z
    · rw [List.mem_singleton.mp z]; exact hm
theorem joinF_nz : ∀ (ms acc : List Int), (∀ x ∈ acc, x ≠ 0) → (∀ x ∈ ms, x ≠ 0) → ∀ x ∈ ms.foldl joinR acc, x ≠ 0
  | [], acc, ha, _ => ha
  | m :: r, acc, ha, hm => joinF_nz r (joinR acc m) (joinR_nz ha (hm m List.mem_cons_self)) fun x hx => hm x (List.mem_cons_of_mem _ hx)
theorem joined_nz {ms : List Int} (h : ∀ x ∈ ms, x ≠ 0) : ∀ x ∈ joined ms, x ≠ 0 := joinF_nz ms [] (fun x hx => nomatch hx) h
theorem joinR_mvs {v : Dv} (ok : v.Ok) (s : Sv) {acc : List Int} {m : Int} (ha : ∀ x ∈ acc, x ≠ 0) (hm : m ≠ 0) : mvs v s (joinR acc m) = mvs v s (acc ++ [m]) := by
  rcases joinR_cases acc m with ⟨dl, l, rfl, hs, e⟩ | e
  · rw [e, List.append_assoc, mvs_app, mvs_app]
    show mv v (mvs v s dl) (l + m) = mv v (mv v (mvs v s dl) l) m
    exact (mv_mv ok _ (ha l (List.mem_append.mpr (.inr List.mem_cons_self))) (same_sign hs) hm).symm
  · rw [e]
theorem joinF_mvs {v : Dv} (ok : v.Ok) (s : Sv) : ∀ (ms acc : List Int), (∀ x ∈ acc, x ≠ 0) → (∀ x ∈ ms, x ≠ 0) → mvs v s (ms.foldl joinR acc) = mvs v s (acc ++ ms)
  | [], acc, _, _ => by rw [List.append_nil]; rfl
  | m :: r, acc, ha, hm => by
    have m0 := hm m List.mem_cons_self
    show mvs v s (r.foldl joinR (joinR acc m)) = _
    rw [joinF_mvs ok s r _ (joinR_nz ha m0) fun x hx => hm x (List.mem_cons_of_mem _ hx), mvs_app, joinR_mvs ok s ha m0, ← mvs_app, List.append_assoc]
    rfl
theorem mvs_joined {v : Dv} (ok : v.Ok) (ms : List Int) (s : Sv) (h : ∀ x ∈ ms, x ≠ 0) : mvs v s (joined ms) = mvs v s ms := joinF_mvs ok s ms [] (fun x hx => nomatch hx) h
/-- sums without signs -/
def absS (ms : List Int) : Nat := (ms.map Int.natAbs).sum
theorem absS_app (a b : List Int) : absS (a ++ b) = absS a + absS b := by unfold absS; rw [List.map_append, List.sum_append]
theorem absS_mem : ∀ {ms : List Int} {x : Int}, x ∈ ms → x.natAbs ≤ absS ms
  | y :: r, x, h => by
    have e : absS (y :: r) = y.natAbs + absS r := by unfold absS; rw [List.map_cons, List.sum_cons]
    rw [e]
    rcases List.mem_cons.mp h with rfl | h
    · omega
    · have := absS_mem h; omega
theorem absS_le {B : Nat} : ∀ {ms : List Int}, (∀ x ∈ ms, x.natAbs ≤ B) → absS ms ≤ ms.length * B
  | [], _ => Nat.zero_le _
  | y :: r, h => by
    have e : absS (y :: r) = y.natAbs + absS r := by unfold absS; rw [List.map_cons, List.sum_cons]
    have h1 := h y List.mem_cons_self
    have h2 := absS_le (ms := r) fun x hx => h x (List.mem_cons_of_mem _ hx)
    rw [e, List.length_cons, Nat.add_mul]
    omega
theorem joinR_abs (acc : List Int) (m : Int) : absS (joinR acc m) ≤ absS acc + m.natAbs := by
  have e1 : ∀ x : Int, absS [x] = x.natAbs := fun x => by unfold absS; rw [List.map_cons, List.map_nil, List.sum_cons, List.sum_nil, Nat.add_zero]
  rcases joinR_cases acc m with ⟨dl, l, rfl, hs, e⟩ | e
  · rw [e, absS_app, absS_app, e1, e1]; omega
  · rw [e, absS_app, e1]; exact Nat.le_refl _
theorem joinF_abs : ∀ (ms acc : List Int), absS (ms.foldl joinR acc) ≤ absS acc + absS ms
  | [], acc => Nat.le_add_right _ _
  | m :: r, acc => by
    have h1 := joinF_abs r (joinR acc m)
    have h2 := joinR_abs acc m
    have e : absS (m :: r) = m.natAbs + absS r := by unfold absS; rw [List.map_cons, List.sum_cons]
    show absS (r.foldl joinR (joinR acc m)) ≤ _
    rw [e]; omega
theorem joined_bound {ms : List Int} (hl : ms.length ≤ 40) (h : ∀ m ∈ ms, m.natAbs ≤ 10 ^ 39) : ∀ t ∈ joined ms, t.natAbs ≤ 40 * 10 ^ 39 := fun t ht => by
  have h1 := absS_mem ht
  have h2 := joinF_abs ms []
  have h3 := absS_le h
  have h4 : ms.length * 10 ^ 39 ≤ 40 * 10 ^ 39 := Nat.mul_le_mul_right _ hl
  have h5 : absS [] = 0 := rfl
  unfold joined at h1
  omega
end PD

/-! PD20: slots without owned lists, by computing -/
namespace PD
open PySem PySem.Spec PyProof.Rows L2 Evl
def noOs : DS → Bool
  | [] => true
  | some (.o _) :: _ => false
  | _ :: r => noOs r
theorem no_of : ∀ {ds : DS}, noOs ds = true → ∀ (j : Nat) (ys : List D), ds[j]? ≠ some (some (W.o ys))
  | [], _, j, ys => by simp
  | none :: r, h, 0, ys => by simp
  | none :: r, h, j + 1, ys => by rw [List.getElem?_cons_succ]; exact no_of (ds := r) h j ys
  | some (.d x) :: r, h, 0, ys => by simp
  | some (.d x) :: r, h, j + 1, ys => by rw [List.getElem?_cons_succ]; exact no_of (ds := r) h j ys
  | some (.v x) :: r, h, 0, ys => by simp
  | some (.v x) :: r, h, j + 1, ys => by rw [List.getElem?_cons_succ]; exact no_of (ds := r) h j ys
  | some (.o x) :: r, h, _, ys => by cases h
theorem only_of {ds : DS} {i : Nat} (h : noOs (ds.set i none) = true) : ∀ (j : Nat) (ys : List D), ds[j]? = some (some (W.o ys)) → j = i := fun j ys q => by
  by_cases e : j = i
  · exact e
  · have := no_of h j ys
    rw [List.getElem?_set_ne (Ne.symm e)] at this
    exact absurd q this
/-- a slot is no longer looked at -/
theorem HS.forget {c : Cn} {G H : Hp} {σ : L2.St} {ds : DS} {pl : List D} (h : HS c G σ H ds pl) (i : Nat) : HS c G σ H (ds.set i none) pl := by
  have key : ∀ {j : Nat} {w : W}, (ds.set i none)[j]? = some (some w) → ds[j]? = some (some w) := fun {j w} q => by
    by_cases e : i = j
    · subst e
      have hl : i < ds.length := by
        have := (List.getElem?_eq_some_iff.mp q).1
        rw [List.length_set] at this
        exact this
      rw [List.getElem?_set_self hl] at q; cases q
    · rw [List.getElem?_set_ne e] at q; exact q
  exact ⟨h.sub, h.gh, h.gq, h.gn, h.keep, h.pl, h.pin, h.hid, by rw [List.length_set]; exact h.len, fun j w q => h.slots j w (key q), fun j k p xs ys q1 q2 q3 q4 => h.own j k p xs ys (key q1) (key q2) q3 q4⟩
theorem ws_forget {c : Cn} {ds : DS} {pl : List D} {t : TS} {E : EE} (i : Nat) (h : WS c t (ds.set i none) pl E) : WS c t ds pl E := fun G σ H hs D' f => h G σ H (hs.forget i) D' f
/-! ### mirrors -/
def mirS (s : Sv) : Sv := (s.1 - s.2, -s.2)
theorem mirror_held {v : Dv} {s : Sv} (h : held v s = true) : held (v.2, v.1) (s.1 - s.2, -s.2) = true := by
  unfold held at h ⊢
  have e : s.1 - s.2 - -s.2 = s.1 := by omega
  show (caught v.2 (s.1 - s.2) || caught v.1 (s.1 - s.2 - -s.2)) = true
  rw [e, Bool.or_comm]
  exact h
theorem mirror_mv {v : Dv} (s : Sv) {m : Int} (h : m ≠ 0) : mv (v.2, v.1) (s.1 - s.2, -s.2) (0 - m) = ((mv v s m).1 - (mv v s m).2, -(mv v s m).2) := by
  have e : s.1 - s.2 - -s.2 = s.1 := by omega
  by_cases z : 0 < m
  · rw [mv_up z, mv_down (show ¬ 0 < 0 - m by omega)]
    ext
    · show max (s.1 - s.2 + (0 - m)) (flo v.2 (s.1 - s.2)) = s.2 + m + max (s.1 - s.2 - m) (flo v.2 (s.1 - s.2)) - (s.2 + m)
      rw [show s.1 - s.2 + (0 - m) = s.1 - s.2 - m by omega]
      omega
    · show -s.2 + (0 - m) = -(s.2 + m); omega
  · rw [mv_down z, mv_up (show 0 < 0 - m by omega)]
    ext
    · show -s.2 + (0 - m) + max (s.1 - s.2 - -s.2 - (0 - m)) (flo v.1 (s.1 - s.2 - -s.2)) = max (s.1 + m) (flo v.1 s.1) - (s.2 + m)
      rw [e, show s.1 - (0 - m) = s.1 + m by omega]
      omega
    · show -s.2 + (0 - m) = -(s.2 + m); omega
theorem mirror_mvs {v : Dv} : ∀ (ms : List Int) (s : Sv), (∀ m ∈ ms, m ≠ 0) → mvs (v.2, v.1) (s.1 - s.2, -s.2) (ms.map fun x => 0 - x) = ((mvs v s ms).1 - (mvs v s ms).2, -(mvs v s ms).2)
  | [], s, _ => rfl
  | m :: r, s, h => by
    show mvs (v.2, v.1) (mv (v.2, v.1) (s.1 - s.2, -s.2) (0 - m)) (r.map fun x => 0 - x) = _
    rw [mirror_mv s (h m List.mem_cons_self)]
    exact mirror_mvs r (mv v s m) fun x hx => h x (List.mem_cons_of_mem _ hx)
theorem mirr_okD {a b k : Nat} {t : Sv} (h1 : a ≤ 10 ^ 41) (h2 : b ≤ 10 ^ 41) (h3 : k ≤ 41) (h : t.1.natAbs ≤ a + k * (10 ^ 39 + 48) ∧ t.2.natAbs ≤ b + k * (10 ^ 39 + 48)) : okD 20 (Sv.d (t.1 - t.2, -t.2)) := by
  have h4 : k * (10 ^ 39 + 48) ≤ 41 * (10 ^ 39 + 48) := Nat.mul_le_mul_right _ h3
  exact Sv.okD (Nat.lt_of_le_of_lt (show (t.1 - t.2).natAbs ≤ 10 ^ 43 by omega) (by decide +kernel)) (Nat.lt_of_le_of_lt (show (-t.2).natAbs ≤ 10 ^ 43 by omega) (by decide +kernel)) 19
end PD

/-! PD21: slacks, moves done several times, cycles (mathematics) -/
namespace PD
open PySem PySem.Spec PyProof.Rows L2 Evl
def slk (c : Comb) (n : Int) : Int := n - flo c n
def sl (c : Comb) : List Int := (List.range c.p.toNat).map fun (r : Nat) => slk c (r : Int)
theorem flo_shift {c : Comb} (ok : c.Ok) (n k : Int) : flo c (n + c.p * k) = flo c n + c.p * k := by
  have hp : c.p ≠ 0 := by have := ok.p1; omega
  have e : (n + c.p * k) % c.p = n % c.p := Int.add_mul_emod_self_left ..
  unfold flo
  rw [e]
  split <;> omega
theorem slk_shift {c : Comb} (ok : c.Ok) (n k : Int) : slk c (n + c.p * k) = slk c n := by
  unfold slk
  rw [flo_shift ok]
  omega
theorem slk_mod {c : Comb} (ok : c.Ok) (n : Int) : slk c (n % c.p) = slk c n := by
  have e : n = n % c.p + c.p * (n / c.p) := (Int.emod_add_mul_ediv n c.p).symm
  conv => rhs; rw [e]
  rw [slk_shift ok]
theorem slk_nn {c : Comb} (ok : c.Ok) (n : Int) : 0 ≤ slk c n := by
  have := flo_le ok n
  unfold slk; omega
theorem sl_len {c : Comb} (ok : c.Ok) : ((sl c).length : Int) = c.p := by
  have := ok.p1
  unfold sl
  rw [List.length_map, List.length_range]
  omega
theorem sl_at {c : Comb} (ok : c.Ok) (n : Int) : atI ((sl c).map PyData.int) (n % c.p) = some (.int (slk c n)) := by
  have p1 := ok.p1
  have r0 := Int.emod_nonneg n (show c.p ≠ 0 by omega)
  have r1 := Int.emod_lt_of_pos n (show 0 < c.p by omega)
  have e : n % c.p = (((n % c.p).toNat : Nat) : Int) := by omega
  rw [e]
  refine atI_nat ?_
  unfold sl
  rw [List.map_map, List.getElem?_map, List.getElem?_range (by omega)]
  show some (PyData.int (slk c (((n % c.p).toNat : Nat) : Int))) = _
  rw [← e, slk_mod ok]
abbrev lf (s : Sv) : Int := s.1 - s.2
theorem mv_up' {v : Dv} {s : Sv} {m : Int} (h : 0 < m) : mv v s m = (s.1 + m - min m (slk v.2 (lf s)), s.2 + m) := by
  rw [mv_up h]
  unfold slk lf
  ext
  · show s.2 + m + max (s.1 - s.2 - m) (flo v.2 (s.1 - s.2)) = s.1 + m - min m (s.1 - s.2 - flo v.2 (s.1 - s.2)); omega
  · rfl
theorem mv_down' {v : Dv} {s : Sv} {m : Int} (h : ¬ 0 < m) : mv v s m = (s.1 - min (-m) (slk v.1 s.1), s.2 + m) := by
  rw [mv_down h]
  unfold slk
  ext
  · show max (s.1 + m) (flo v.1 s.1) = s.1 - min (-m) (s.1 - flo v.1 s.1); omega
  · rfl
/-- the state behind so many times -/
def rp (v : Dv) (ms : List Int) (s : Sv) : Nat → Sv
  | 0 => s
  | k + 1 => mvs v (rp v ms s k) ms
theorem rp_add (v : Dv) (ms : List Int) (s : Sv) (i : Nat) : ∀ k : Nat, rp v ms s (i + k) = rp v ms (rp v ms s i) k
  | 0 => rfl
  | k + 1 => by
    show mvs v (rp v ms s (i + k)) ms = mvs v (rp v ms (rp v ms s i) k) ms
    rw [rp_add v ms s i k]
theorem rp_held {v : Dv} (ok : v.Ok) (ms : List Int) {s : Sv} (h : held v s = true) : ∀ k : Nat, held v (rp v ms s k) = true
  | 0 => h
  | k + 1 => mvs_held ok ms _ (rp_held ok ms h k)
def plc (v : Dv) (s : Sv) : Int × Int := (s.1 % v.1.p, lf s % v.2.p)
theorem mod_eq_shift {p a b : Int} (h : a % p = b % p) : ∃ k, b = a + p * k :=
  ⟨b / p - a / p, by
    have e1 := Int.emod_add_mul_ediv a p
    have e2 := Int.emod_add_mul_ediv b p
    rw [Int.mul_sub]
    omega⟩
/-- from one place the same rises -/
theorem mv_shift {v : Dv} (ok : v.Ok) {s t : Sv} (h : plc v s = plc v t) (m : Int) : mv v t m = ((mv v s m).1 + (t.1 - s.1), (mv v s m).2 + (t.2 - s.2)) := by
  obtain ⟨k1, e1⟩ := mod_eq_shift (congrArg Prod.fst h)
  obtain ⟨k2, e2⟩ := mod_eq_shift (congrArg Prod.snd h)
  have f1 : slk v.1 t.1 = slk v.1 s.1 := by
    have e1' : t.1 = s.1 + v.1.p * k1 := e1
    rw [e1', slk_shift ok.1]
  have f2 : slk v.2 (lf t) = slk v.2 (lf s) := by
    have e2' : lf t = lf s + v.2.p * k2 := e2
    rw [e2', slk_shift ok.2]
  by_cases z : 0 < m
  · rw [mv_up' z, mv_up' z, f2]
    ext
    · show t.1 + m - min m (slk v.2 (lf s)) = s.1 + m - min m (slk v.2 (lf s)) + (t.1 - s.1); omega
    · show t.2 + m = s.2 + m + (t.2 - s.2); omega
  · rw [mv_down' z, mv_down' z, f1]
    ext
    · show t.1 - min (-m) (slk v.1 s.1) = s.1 - min (-m) (slk v.1 s.1) + (t.1 - s.1); omega
    · show t.2 + m = s.2 + m + (t.2 - s.2); omega
theorem plc_shift {v : Dv} {s t s' t' : Sv} (h : plc v s = plc v t) (e : t' = (s'.1 + (t.1 - s.1), s'.2 + (t.2 - s.2))) : plc v s' = plc v t' := by
  obtain ⟨k1, e1⟩ := mod_eq_shift (congrArg Prod.fst h)
  obtain ⟨k2, e2⟩ := mod_eq_shift (congrArg Prod.snd h)
  have e1' : t.1 = s.1 + v.1.p * k1 := e1
  have e2' : lf t = lf s + v.2.p * k2 := e2
  subst e
  unfold plc
  have a1 : s'.1 + (t.1 - s.1) = s'.1 + v.1.p * k1 := by omega
  have a2 : lf (s'.1 + (t.1 - s.1), s'.2 + (t.2 - s.2)) = lf s' + v.2.p * k2 := by
    show s'.1 + (t.1 - s.1) - (s'.2 + (t.2 - s.2)) = s'.1 - s'.2 + v.2.p * k2
    unfold lf at e2'
    omega
  show (s'.1 % v.1.p, lf s' % v.2.p) = ((s'.1 + (t.1 - s.1)) % v.1.p, lf (s'.1 + (t.1 - s.1), s'.2 + (t.2 - s.2)) % v.2.p)
  rw [a2, a1, Int.add_mul_emod_self_left, Int.add_mul_emod_self_left]
theorem mvs_shift {v : Dv} (ok : v.Ok) : ∀ (ms : List Int) {s t : Sv}, plc v s = plc v t → mvs v t ms = ((mvs v s ms).1 + (t.1 - s.1), (mvs v s ms).2 + (t.2 - s.2))
  | [], s, t, h => by
    show t = (s.1 + (t.1 - s.1), s.2 + (t.2 - s.2))
    ext
    · show t.1 = s.1 + (t.1 - s.1); omega
    · show t.2 = s.2 + (t.2 - s.2); omega
  | m :: r, s, t, h => by
    have e := mv_shift ok h m
    have h2 := plc_shift h e
    show mvs v (mv v t m) r = _
    rw [mvs_shift ok r h2, e]
    ext
    · show (mvs v (mv v s m) r).1 + ((mv v s m).1 + (t.1 - s.1) - (mv v s m).1) = (mvs v (mv v s m) r).1 + (t.1 - s.1); omega
    · show (mvs v (mv v s m) r).2 + ((mv v s m).2 + (t.2 - s.2) - (mv v s m).2) = (mvs v (mv v s m) r).2 + (t.2 - s.2); omega
theorem rp_shift {v : Dv} (ok : v.Ok) (ms : List Int) {s t : Sv} (h : plc v s = plc v t) : ∀ k : Nat, rp v ms t k = ((rp v ms s k).1 + (t.1 - s.1), (rp v ms s k).2 + (t.2 - s.2))
  | 0 => by
    show t = (s.1 + (t.1 - s.1), s.2 + (t.2 - s.2))
    ext
    · show t.1 = s.1 + (t.1 - s.1); omega
    · show t.2 = s.2 + (t.2 - s.2); omega
  | k + 1 => by
    have e := rp_shift ok ms h k
    have h2 := plc_shift h e
    show mvs v (rp v ms t k) ms = _
    rw [mvs_shift ok ms h2, e]
    ext
    · show (mvs v (rp v ms s k) ms).1 + ((rp v ms s k).1 + (t.1 - s.1) - (rp v ms s k).1) = (mvs v (rp v ms s k) ms).1 + (t.1 - s.1); omega
    · show (mvs v (rp v ms s k) ms).2 + ((rp v ms s k).2 + (t.2 - s.2) - (rp v ms s k).2) = (mvs v (rp v ms s k) ms).2 + (t.2 - s.2); omega
theorem mv_hand (v : Dv) (s : Sv) (m : Int) : (mv v s m).2 = s.2 + m := by
  unfold mv; split <;> rfl
theorem mvs_hand (v : Dv) : ∀ (ms : List Int) (s : Sv), (mvs v s ms).2 = s.2 + ms.sum
  | [], s => by show s.2 = s.2 + 0; omega
  | m :: r, s => by
    show (mvs v (mv v s m) r).2 = _
    rw [mvs_hand v r, mv_hand, List.sum_cons]
    omega
theorem rp_hand (v : Dv) (ms : List Int) (s : Sv) : ∀ k : Nat, (rp v ms s k).2 = s.2 + (k : Int) * ms.sum
  | 0 => by show s.2 = s.2 + ((0 : Nat) : Int) * _; simp
  | k + 1 => by
    show (mvs v (rp v ms s k) ms).2 = _
    rw [mvs_hand, rp_hand v ms s k]
    have e : ((k + 1 : Nat) : Int) = (k : Int) + 1 := by omega
    rw [e, Int.add_mul]
    omega
/-- n is the first time at which a place comes again: that of j -/
structure Cyc (v : Dv) (ms : List Int) (s : Sv) (n j : Nat) : Prop where
  lt : j < n
  eq : plc v (rp v ms s j) = plc v (rp v ms s n)
  inj : ∀ i k, i < k → k < n → plc v (rp v ms s i) ≠ plc v (rp v ms s k)
theorem Cyc.uniq {v : Dv} {ms : List Int} {s : Sv} {n j n' j' : Nat} (a : Cyc v ms s n j) (b : Cyc v ms s n' j') : n = n' ∧ j = j' := by
  have e : n = n' := by
    rcases Nat.lt_trichotomy n n' with h | h | h
    · exact absurd a.eq (b.inj j n a.lt h)
    · exact h
    · exact absurd b.eq (a.inj j' n' b.lt h)
  subst e
  refine ⟨rfl, ?_⟩
  rcases Nat.lt_trichotomy j j' with h | h | h
  · exact absurd (a.eq.trans b.eq.symm) (a.inj j j' h b.lt)
  · exact h
  · exact absurd (b.eq.trans a.eq.symm) (a.inj j' j h a.lt)
theorem pigeon : ∀ (M : Nat) (n : Nat) (f : Nat → Nat), (∀ i, i < n → f i < M) → (∀ i k, i < k → k < n → f i ≠ f k) → n ≤ M
  | 0, n, f, h, _ => by
    rcases Nat.eq_zero_or_pos n with z | z
    · omega
    · have := h 0 z; omega
  | M + 1, n, f, h, inj => by
    by_cases z : ∃ i, i < n ∧ f i = M
    · obtain ⟨i, hi, e⟩ := z
      have := pigeon M (n - 1) (fun k => if k < i then f k else f (k + 1)) (fun k hk => by
        show (if k < i then f k else f (k + 1)) < M
        split
        · rename_i y
          have h1 := h k (by omega)
          have h2 := inj k i y hi
          omega
        · rename_i y
          have h1 := h (k + 1) (by omega)
          have h2 := inj i (k + 1) (by omega) (by omega)
          omega) (fun a b hab hb => by
        show (if a < i then f a else f (a + 1)) ≠ (if b < i then f b else f (b + 1))
        by_cases y1 : a < i
        · by_cases y2 : b < i
          · rw [if_pos y1, if_pos y2]; exact inj a b hab (by omega)
          · rw [if_pos y1, if_neg y2]; exact inj a (b + 1) (by omega) (by omega)
        · rw [if_neg y1, if_neg (show ¬ b < i by omega)]; exact inj (a + 1) (b + 1) (by omega) (by omega))
      omega
    · have := pigeon M n f (fun i hi => by
        have h1 := h i hi
        have h2 : f i ≠ M := fun e => z ⟨i, hi, e⟩
        omega) inj
      omega
theorem inj_le {v : Dv} (ok : v.Ok) {ms : List Int} {s : Sv} {n : Nat} (inj : ∀ i k, i < k → k < n → plc v (rp v ms s i) ≠ plc v (rp v ms s k)) : n ≤ 576 := by
  have p1 := ok.1.p1
  have p2 := ok.1.p24
  have q1 := ok.2.p1
  have q2 := ok.2.p24
  have b : ∀ i, 0 ≤ (plc v (rp v ms s i)).1 ∧ (plc v (rp v ms s i)).1 < 24 ∧ 0 ≤ (plc v (rp v ms s i)).2 ∧ (plc v (rp v ms s i)).2 < 24 := fun i => by
    have a1 := Int.emod_nonneg (rp v ms s i).1 (show v.1.p ≠ 0 by omega)
    have a2 := Int.emod_lt_of_pos (rp v ms s i).1 (show 0 < v.1.p by omega)
    have a3 := Int.emod_nonneg (lf (rp v ms s i)) (show v.2.p ≠ 0 by omega)
    have a4 := Int.emod_lt_of_pos (lf (rp v ms s i)) (show 0 < v.2.p by omega)
    unfold plc
    omega
  refine pigeon 576 n (fun i => ((plc v (rp v ms s i)).1 * 24 + (plc v (rp v ms s i)).2).toNat) (fun i hi => ?_) (fun i k hik hk e => ?_)
  · have := b i
    show ((plc v (rp v ms s i)).1 * 24 + (plc v (rp v ms s i)).2).toNat < 576
    omega
  · have h1 := b i
    have h2 := b k
    have e' : ((plc v (rp v ms s i)).1 * 24 + (plc v (rp v ms s i)).2).toNat = ((plc v (rp v ms s k)).1 * 24 + (plc v (rp v ms s k)).2).toNat := e
    refine inj i k hik hk ?_
    ext
    · omega
    · omega
theorem Cyc.le {v : Dv} (ok : v.Ok) {ms : List Int} {s : Sv} {n j : Nat} (c : Cyc v ms s n j) : n ≤ 576 := inj_le ok c.inj
/-- behind a cycle -/
theorem Cyc.shift {v : Dv} (ok : v.Ok) {ms : List Int} {s : Sv} {n j : Nat} (c : Cyc v ms s n j) (i : Nat) : (rp v ms s (n + i)).1 = (rp v ms s (j + i)).1 + ((rp v ms s n).1 - (rp v ms s j).1) := by
  rw [rp_add, rp_add, rp_shift ok ms c.eq i]
theorem Cyc.many {v : Dv} (ok : v.Ok) {ms : List Int} {s : Sv} {n j : Nat} (c : Cyc v ms s n j) (i : Nat) : ∀ k : Nat, (rp v ms s (j + i + (n - j) * k)).1 = (rp v ms s (j + i)).1 + (k : Int) * ((rp v ms s n).1 - (rp v ms s j).1)
  | 0 => by simp
  | k + 1 => by
    have lt := c.lt
    have e : j + i + (n - j) * (k + 1) = n + (i + (n - j) * k) := by rw [Nat.mul_add]; omega
    have e2 : ((k + 1 : Nat) : Int) = (k : Int) + 1 := by omega
    rw [e, c.shift ok, show j + (i + (n - j) * k) = j + i + (n - j) * k by omega, c.many ok i k, e2, Int.add_mul]
    omega
/-- the height behind so many times, from the heights up to n -/
theorem Cyc.far {v : Dv} (ok : v.Ok) {ms : List Int} {s : Sv} {n j : Nat} (c : Cyc v ms s n j) {t : Nat} (h : j ≤ t) : (rp v ms s (j + (t - j) % (n - j))).1 + (((t - j) / (n - j) : Nat) : Int) * ((rp v ms s n).1 - (rp v ms s j).1) = (rp v ms s t).1 := by
  rw [← c.many ok]
  congr 2
  have := Nat.mod_add_div (t - j) (n - j)
  omega
theorem rp_bound {v : Dv} (ok : v.Ok) {M : Nat} {ms : List Int} (hm : ∀ m ∈ ms, m.natAbs ≤ M) (s : Sv) : ∀ k : Nat, (rp v ms s k).1.natAbs ≤ s.1.natAbs + k * (ms.length * (M + 48)) ∧ (rp v ms s k).2.natAbs ≤ s.2.natAbs + k * (ms.length * (M + 48))
  | 0 => by
    show s.1.natAbs ≤ s.1.natAbs + 0 * _ ∧ s.2.natAbs ≤ s.2.natAbs + 0 * _
    omega
  | k + 1 => by
    obtain ⟨h1, h2⟩ := rp_bound ok hm s k
    have h3 := mvs_bound ok M ms (rp v ms s k) hm
    rw [Nat.add_mul, Nat.one_mul]
    exact ⟨by have := h3.1; show (mvs v (rp v ms s k) ms).1.natAbs ≤ _; omega, by have := h3.2; show (mvs v (rp v ms s k) ms).2.natAbs ≤ _; omega⟩
end PD

/-! PD22: a dict of places; sums, divmod -/
namespace PD
open PySem PySem.Spec PyProof.Rows L2 Evl
def one (p : Addr) (o : HO) : Hp := fun a => if a = p then some o else none
theorem one_at {p : Addr} {o : HO} : one p o p = some o := if_pos rfl
theorem one_some {p a : Addr} {o u : HO} (h : one p o a = some u) : a = p ∧ u = o := by
  unfold one at h
  by_cases e : a = p
  · rw [if_pos e] at h; exact ⟨e, (Option.some.inj h).symm⟩
  · rw [if_neg e] at h; cases h
theorem one_upd {p : Addr} {o u : HO} : upd (one p o) p u = one p u := by
  funext b
  unfold upd one
  split <;> rfl
section
variable {c : Cn} {K : PySem.W.Frag} {ds : DS} {pl : List D} {t u body : TS} {D' : Ends} {G0 : Hp} {E : EE} {Φ : W → List D → Prop} {te : TE} {tr : TA}
/-- a pinned thing changes -/
theorem HS.repin {G H P : Hp} {σ : L2.St} {la : Addr} {o o' : HO} (hs : HS (c.pinP P) G σ H ds pl) (F : Fresh c P) (h4 : P la = some o) : Fresh c (upd P la o') ∧ HS (c.pinP (upd P la o')) G σ (upd H la o') ds pl := by
  have F' : Fresh c (upd P la o') := fun b u q => by
    by_cases z : b = la
    · subst z; exact F _ _ h4
    · rw [upd_ne z] at q; exact F _ _ q
  have nn : ∀ {b : Addr}, (c.pinP P).pin b = none → b ≠ la ∧ (c.pinP (upd P la o')).pin b = none := fun {b} q => by
    have n : b ≠ la := fun z => by rw [z, pinP_at h4] at q; cases q
    refine ⟨n, ?_⟩
    cases z : P b with
    | none => rw [pinP_none z] at q; rw [pinP_none (by rw [upd_ne n]; exact z)]; exact q
    | some u => rw [pinP_at z] at q; cases q
  refine ⟨F', fun b o q => ?_, hs.gh, hs.gq, fun b o q => ?_, fun b o q1 q2 => ?_, fun p z => ?_, fun b o q => ?_, fun b q => ?_, hs.len, fun j w q => ?_, hs.own⟩
  · rw [upd_ne (fun z => by rw [z, hs.gn _ _ (pinP_at h4)] at q; cases q)]; exact hs.sub b o q
  · rcases pinP_or q with q | ⟨_, q⟩
    · by_cases z : b = la
      · subst z; exact hs.gn _ _ (pinP_at h4)
      · rw [upd_ne z] at q; exact hs.gn _ _ (pinP_at q)
    · cases z : P b with
      | none => exact hs.gn b o (by rw [pinP_none z]; exact q)
      | some u => exact hs.gn b u (pinP_at z)
  · rw [upd_ne (fun z => by have q3 : c.H0 b = some o := q2; rw [z, (F _ _ h4).1] at q3; cases q3)]; exact hs.keep b o q1 q2
  · obtain ⟨b1, b2, vs, b3, b4⟩ := hs.pl p z
    obtain ⟨n1, n2⟩ := nn b2
    exact ⟨b1, n2, vs, by rw [upd_ne n1]; exact b3, b4⟩
  · rcases pinP_or q with q | ⟨q0, q⟩
    · by_cases z : b = la
      · subst z; rw [upd_same] at q ⊢; exact q
      · rw [upd_ne z] at q ⊢; exact hs.pin _ _ (pinP_at q)
    · have n : b ≠ la := fun z => by subst z; rw [upd_same] at q0; cases q0
      rw [upd_ne n] at q0 ⊢
      exact hs.pin b o (by rw [pinP_none q0]; exact q)
  · by_cases z : b = la
    · subst z; exact ⟨_, upd_same⟩
    · rw [upd_ne z]; exact hs.hid b q
  · obtain ⟨v, d1, d2⟩ := hs.slots j w q
    refine ⟨v, d1, ?_⟩
    cases w with
    | d x => exact d2
    | v x => exact d2
    | o zs =>
      obtain ⟨p', vs, rfl, a1, a2, a3, a4, a5, a6, a7⟩ := d2
      obtain ⟨n1, n2⟩ := nn a5
      exact ⟨p', vs, rfl, by rw [upd_ne n1]; exact a1, a2, a3, a4, n2, a6, a7⟩
/-- x = {} -/
theorem wsk_dnew {i : Nat} (h : ∀ p, Fresh c (one p (.dT [])) → WSK (c.pinP (one p (.dT []))) u (ds.set i (some (.v (.ref p)))) pl D' G0) : WSK c (tSeq (tAsg tDNewT (gName i)) u) ds pl D' G0 := fun G σ H hs e => fun p hp => by
  have n := hs.none_of hp
  have F : Fresh c (one p (.dT [])) := fun a o q => by
    obtain ⟨rfl, rfl⟩ := one_some q
    exact ⟨n.2.2.2.2, n.2.2.1, n.2.1, n.2.2.2.1⟩
  refine h p F G _ _ ((hs.pinNew (Ex.new hp) fun a o q => ?_).setV i (.ref p)) e
  obtain ⟨rfl, rfl⟩ := one_some q
  exact ⟨upd_same, hp⟩
abbrev pk2 (a b : Int) : List Key := [.inl a, .inl b]
theorem key_at {G H : Hp} {σ : L2.St} {ip : Nat} {a b : Int} (hs : HS c G σ H ds pl) (hi : ds[ip]? = some (some (.d (.tuple [.int a, .int b])))) : ∃ q, σ[ip]? = some (some (.ref q)) ∧ H q = some (.tup ((pk2 a b).map kV)) := by
  obtain ⟨v, e1, e2⟩ := hs.slots ip _ hi
  obtain ⟨y, x1, x2, rfl, k1, k2, k3⟩ := pair_raw (show R G v (.tuple [.int a, .int b]) from e2)
  cases k2
  cases k3
  exact ⟨y, e1, hs.sub _ _ k1⟩
theorem dict_at {G H P : Hp} {σ : L2.St} {id : Nat} {p : Addr} (hs : HS (c.pinP P) G σ H ds pl) (hi : ds[id]? = some (some (.v (.ref p)))) {o : HO} (hP : P p = some o) : σ[id]? = some (some (.ref p)) ∧ H p = some o := by
  obtain ⟨v, e1, e2⟩ := hs.slots id _ hi
  have e2' : v = .ref p := e2
  subst e2'
  exact ⟨e1, hs.pin _ _ (pinP_at hP)⟩
/-- while place not in seen: seen[place] = len(xs); .. -/
theorem wsk_while_seen {id ip il : Nat} {p : Addr} {kvs0 : List (List Key × V)} (I : Nat → List (List Key × V) → DS → List D → Prop) (m0 : Nat) (F : Fresh c (one p (.dT kvs0))) (h0 : I m0 kvs0 ds pl)
    (slots : ∀ m kvs ds' pl', I m kvs ds' pl' → ds'[id]? = some (some (.v (.ref p))) ∧ ∃ a b xs, ds'[ip]? = some (some (.d (.tuple [.int a, .int b]))) ∧ ds'[il]? = some (some (.o xs)) ∧
      (∀ r, valV kvs (pk2 a b) = some r → WSK (c.pinP (one p (.dT kvs))) u ds' pl' D' G0) ∧
      (valV kvs (pk2 a b) = none → kvs.length < sizeLine ∧ WS (c.pinP (one p (.dT (putK kvs (pk2 a b) (.int xs.length))))) body ds' pl' (onlyNx fun ds2 pl2 => ∃ m', m' < m ∧ I m' (putK kvs (pk2 a b) (.int xs.length)) ds2 pl2))) :
    WSK (c.pinP (one p (.dT kvs0))) (tSeq (tWhile (tB (tDNotIn (tVar ip) (tVar id))) (tSeq (sDPut (tVar id) (tVar ip) (tCB (rLenQ K) (tCons (tVar il) tNil))) body)) u) ds pl D' G0 := fun G σ H hs e0 =>
  ⟨fun m σ' H' => ∃ G' ds' pl' kvs, Fresh c (one p (.dT kvs)) ∧ HS (c.pinP (one p (.dT kvs))) G' σ' H' ds' pl' ∧ Ex G0 G' ∧ I m kvs ds' pl', ⟨m0, G, ds, pl, kvs0, F, hs, e0, h0⟩, by
    rintro m σ' H' ⟨G', ds', pl', kvs, F1, h1, e1, g1⟩
    obtain ⟨q1, a, b, xs, q2, q3, q4, q5⟩ := slots m kvs ds' pl' g1
    obtain ⟨z1, z2⟩ := dict_at h1 q1 one_at
    obtain ⟨kq, y1, y2⟩ := key_at h1 q2
    refine ⟨_, y1, _, z1, p, valV kvs (pk2 a b), rfl, DGet.t z2 y2, !(valV kvs (pk2 a b)).isSome, rfl, ?_⟩
    cases hv : valV kvs (pk2 a b) with
    | some r => exact q4 r hv G' σ' H' h1 e1
    | none =>
      obtain ⟨l1, w1⟩ := q5 hv
      refine ⟨fun σ3 H3 => ∃ m', m' < m ∧ ∃ G' ds' pl' kvs, Fresh c (one p (.dT kvs)) ∧ HS (c.pinP (one p (.dT kvs))) G' σ3 H3 ds' pl' ∧ Ex G0 G' ∧ I m' kvs ds' pl', fun σ3 H3 ⟨m', l, q⟩ => ⟨m', l, q⟩, ?_⟩
      obtain ⟨vl, x1, pl0, vs, rfl, x2, x3, _⟩ := h1.slots il _ q3
      refine ⟨_, x1, pl0, vs, rfl, .inl (SqL.of x2), _, z1, _, y1, p, _, rfl, DPut.t z2 y2 l1, ?_⟩
      obtain ⟨F2, h2⟩ := h1.repin (o' := .dT (putK kvs (pk2 a b) (.int vs.length))) F1 one_at
      rw [one_upd] at F2 h2
      have ev : vs.length = xs.length := x3.len
      rw [ev] at F2 h2 ⊢
      refine w1 G' σ' _ h2 _ ⟨?_, ?_, ?_, ?_⟩
      · exact fun G3 σ3 H3 ds3 pl3 h3 e3 ⟨m', l, g3⟩ => ⟨m', l, G3, ds3, pl3, _, F2, h3, e1.trans e3, g3⟩
      · exact fun _ _ _ _ _ _ _ _ _ _ w => w.elim
      · exact fun _ _ _ _ _ _ _ w => w.elim
      · exact fun _ _ _ _ _ _ _ w => w.elim⟩
/-- seen[place] -/
theorem we_dget {id ip : Nat} {p : Addr} {kvs : List (List Key × V)} {a b i : Int} (h1 : ds[id]? = some (some (.v (.ref p)))) (h2 : ds[ip]? = some (some (.d (.tuple [.int a, .int b])))) (hv : valV kvs (pk2 a b) = some (.int i)) (h : Φ (.d (.int i)) pl) :
    WE (c.pinP (one p (.dT kvs))) (tDGet (tVar id) (tVar ip)) ds pl Φ := fun G σ H hs Q q => by
  obtain ⟨z1, z2⟩ := dict_at hs h1 one_at
  obtain ⟨kq, y1, y2⟩ := key_at hs h2
  have g := DGet.t z2 y2
  rw [hv] at g
  exact ⟨_, z1, _, y1, p, _, rfl, g, q _ G H (.d (.int i)) pl hs (Ex.refl _) (R.int _) h⟩
theorem cb_sum {ns : List Int} (h : Φ (.d (.int ns.sum)) pl) : CbS c (rSum K) ds [.list (ns.map PyData.int)] pl Φ := fun G σ H vs hs f Q q => by
  obtain ⟨v, rfl, a⟩ := ra1 f
  cases a with
  | lst a b =>
    have eb := b.ints
    subst eb
    exact ⟨_, ns, rfl, SqL.of (hs.sub _ _ a), q _ G H (.d _) pl hs (Ex.refl _) (R.int _) h⟩
/-- x, y = divmod(i, j) as data -/
theorem cb_divmod {i j : Int} (hc : CDiv i j) (h : Φ (.d (.tuple [.int (i / j), .int (i % j)])) pl) : CbS c (fun xs H Q => ∃ i j, xs = [.int i, .int j] ∧ CDiv i j ∧ ∀ p, H p = none → Q (.ref p) (upd H p (.tup [.int (i / j), .int (i % j)]))) ds [.int i, .int j] pl Φ := fun G σ H vs hs f Q q => by
  obtain ⟨v, u, rfl, a, b⟩ := ra2 f
  cases a
  cases b
  refine ⟨i, j, rfl, hc, fun p hp => ?_⟩
  have n := hs.none_of hp
  exact q _ _ _ (.d (.tuple [.int (i / j), .int (i % j)])) pl (hs.newD hp) (Ex.new n.1) (show R _ (.ref p) (.tuple [.int (i / j), .int (i % j)]) from .tup upd_same (.cons (.int _) (.cons (.int _) .nil))) h
end
end PD

/-! PD23: heights one behind the other, as data -/
namespace PD
open PySem PySem.Spec PyProof.Rows L2 Evl
abbrev slD (v : Dv) : D := .tuple [.list ((sl v.1).map PyData.int), .list ((sl v.2).map PyData.int)]
def hts (v : Dv) (ms : List Int) (s : Sv) (n : Nat) : List Int := (List.range n).map fun k => (rp v ms s k).1
theorem hts_len (v : Dv) (ms : List Int) (s : Sv) (n : Nat) : (hts v ms s n).length = n := by unfold hts; rw [List.length_map, List.length_range]
theorem hts_succ (v : Dv) (ms : List Int) (s : Sv) (n : Nat) : hts v ms s (n + 1) = hts v ms s n ++ [(rp v ms s n).1] := by unfold hts; rw [List.range_succ, List.map_append]; rfl
theorem hts_at (v : Dv) (ms : List Int) (s : Sv) {n k : Nat} (h : k < n) : atI ((hts v ms s n).map PyData.int) (k : Int) = some (.int (rp v ms s k).1) := atI_nat (by
  unfold hts
  rw [List.map_map, List.getElem?_map, List.getElem?_range h]
  rfl)
theorem hts_last (v : Dv) (ms : List Int) (s : Sv) (n : Nat) : atI ((hts v ms s (n + 1)).map PyData.int) (-1) = some (.int (rp v ms s n).1) := by
  rw [hts_succ, List.map_append]
  exact atI_last _ _
theorem mod_len {c : Comb} (ok : c.Ok) (x : Int) : x % ((((sl c).map PyData.int).length : Nat) : Int) = x % c.p := by rw [List.length_map, sl_len ok]
theorem len_pos {c : Comb} (ok : c.Ok) : (0 : Int) < ((((sl c).map PyData.int).length : Nat) : Int) := by rw [List.length_map, sl_len ok]; have := ok.p1; omega
/-- what the dict of places holds -/
def Seen (v : Dv) (ms : List Int) (s : Sv) (k : Nat) (kvs : List (List Key × V)) : Prop := ∀ a b r, valV kvs (pk2 a b) = some r ↔ ∃ i, i < k ∧ plc v (rp v ms s i) = (a, b) ∧ r = .int (i : Int)
theorem seen_nil (v : Dv) (ms : List Int) (s : Sv) : Seen v ms s 0 [] := fun a b r => ⟨fun h => (by cases h), fun ⟨i, h, _⟩ => absurd h (Nat.not_lt_zero i)⟩
theorem seen_put {v : Dv} {ms : List Int} {s : Sv} {k : Nat} {kvs : List (List Key × V)} (h : Seen v ms s k kvs) (hn : valV kvs (pk2 (plc v (rp v ms s k)).1 (plc v (rp v ms s k)).2) = none) :
    Seen v ms s (k + 1) (putK kvs (pk2 (plc v (rp v ms s k)).1 (plc v (rp v ms s k)).2) (.int (k : Int))) := fun a b r => by
  rw [valV_put]
  by_cases e : pk2 a b = pk2 (plc v (rp v ms s k)).1 (plc v (rp v ms s k)).2
  · rw [if_pos e]
    have e1 : a = (plc v (rp v ms s k)).1 ∧ b = (plc v (rp v ms s k)).2 := by
      simp only [pk2, List.cons.injEq, Sum.inl.injEq, and_true] at e
      exact e
    obtain ⟨rfl, rfl⟩ := e1
    constructor
    · intro z
      cases z
      exact ⟨k, by omega, rfl, rfl⟩
    · rintro ⟨i, hi, e2, rfl⟩
      by_cases z : i = k
      · subst z; rfl
      · have := (h _ _ (.int (i : Int))).mpr ⟨i, by omega, e2, rfl⟩
        rw [hn] at this; cases this
  · rw [if_neg e, h a b r]
    constructor
    · rintro ⟨i, hi, e2, e3⟩; exact ⟨i, by omega, e2, e3⟩
    · rintro ⟨i, hi, e2, e3⟩
      refine ⟨i, ?_, e2, e3⟩
      by_cases z : i = k
      · subst z
        rw [e2] at e
        exact absurd rfl e
      · omega
theorem seen_inj {v : Dv} {ms : List Int} {s : Sv} {k : Nat} {kvs : List (List Key × V)} (h : Seen v ms s k kvs) (hn : valV kvs (pk2 (plc v (rp v ms s k)).1 (plc v (rp v ms s k)).2) = none) (inj : ∀ i i', i < i' → i' < k → plc v (rp v ms s i) ≠ plc v (rp v ms s i')) :
    ∀ i i', i < i' → i' < k + 1 → plc v (rp v ms s i) ≠ plc v (rp v ms s i') := fun i i' h1 h2 e => by
  by_cases z : i' = k
  · subst z
    have := (h (plc v (rp v ms s i')).1 (plc v (rp v ms s i')).2 (.int (i : Int))).mpr ⟨i, h1, e, rfl⟩
    rw [hn] at this; cases this
  · exact inj i i' h1 (by omega) e
theorem sum_abs : ∀ ms : List Int, ms.sum.natAbs ≤ absS ms
  | [] => Nat.le_refl _
  | y :: r => by
    have e : absS (y :: r) = y.natAbs + absS r := by unfold absS; rw [List.map_cons, List.sum_cons]
    have := sum_abs r
    rw [List.sum_cons, e]
    omega
/-- a great bound -/
@[irreducible] def BB : Nat := 2 ^ 3000
theorem BB_up : 2 * (BB + 1000 * (40 * (BB + 48))) < 2 ^ 3020 := by decide +kernel
theorem BB_two : BB < 2 ^ 3001 := by decide +kernel
theorem BB_40 : 40 * BB < 2 ^ 3020 := by decide +kernel
theorem BB_ge : 10 ^ 150 ≤ BB := by decide +kernel
theorem key1 {a b c L X : Nat} (h1 : a ≤ b + c) (h2 : c ≤ X) (h3 : b < L) : a ≤ L + X := by omega
theorem key2 {x y : Int} {L X : Nat} (h1 : x.natAbs ≤ L + X) (h2 : y.natAbs ≤ L + X) : (x - y).natAbs ≤ 2 * (L + X) := by omega
theorem key3 {q t L : Nat} (h1 : q ≤ t) (h2 : t < L) : ((q : Nat) : Int).natAbs ≤ L := by omega
theorem key4 {x : Int} {a b c : Nat} (h1 : x.natAbs ≤ a) (h2 : a ≤ b) (h3 : b ≤ c) : x.natAbs ≤ c := by omega
theorem rp_BB {v : Dv} (ok : v.Ok) {ms : List Int} {s : Sv} (ml : ms.length ≤ 40) (mb : ∀ m ∈ ms, m.natAbs < BB) (sb : s.1.natAbs < BB) (i : Nat) (hi : i ≤ 1000) : (rp v ms s i).1.natAbs ≤ BB + 1000 * (40 * (BB + 48)) :=
  key1 (rp_bound ok (M := BB) (fun m hm => Nat.le_of_lt (mb m hm)) s i).1 (Nat.mul_le_mul hi (Nat.mul_le_mul_right (BB + 48) ml)) sb
theorem far_mul {v : Dv} (ok : v.Ok) {ms : List Int} {s : Sv} (ml : ms.length ≤ 40) (mb : ∀ m ∈ ms, m.natAbs < BB) (sb : s.1.natAbs < BB) {n j t : Nat} (hn : n ≤ 576) (hj : j ≤ 576) (tb : t < BB) : CMulW (((t - j) / (n - j) : Nat) : Int) ((rp v ms s n).1 - (rp v ms s j).1) := by
  have g1 := rp_BB ok ml mb sb n (Nat.le_trans hn (by decide))
  have g2 := rp_BB ok ml mb sb j (Nat.le_trans hj (by decide))
  have q0 : (t - j) / (n - j) ≤ t := Nat.le_trans (Nat.div_le_self _ _) (Nat.sub_le _ _)
  exact wide_mul (a := 3001) (b := 3020) (Nat.lt_of_le_of_lt (key3 q0 tb) BB_two) (Nat.lt_of_le_of_lt (key2 g1 g2) BB_up) (by decide) (by decide) (by decide)
theorem sum_mul {ms : List Int} (ml : ms.length ≤ 40) (mb : ∀ m ∈ ms, m.natAbs < BB) {t : Nat} (tb : t < BB) : CMulW (t : Int) ms.sum :=
  wide_mul (a := 3001) (b := 3020) (Nat.lt_of_le_of_lt (key3 (Nat.le_refl t) tb) BB_two) (Nat.lt_of_le_of_lt (key4 (sum_abs ms) (absS_le (B := BB) fun m hm => Nat.le_of_lt (mb m hm)) (Nat.mul_le_mul_right BB ml)) BB_40) (by decide) (by decide) (by decide)
theorem putK_len' {κ : Type} [DecidableEq κ] (kvs : List (κ × V)) (k : κ) (x : V) (h : valV kvs k = none) : (putK kvs k x).length = kvs.length + 1 := by
  rw [putK_new x h, List.length_append]
  rfl
end PD

/-! PD24: comprehensions that map; mirrors of trails, of joined moves, of cycles -/
namespace PD
open PySem PySem.Spec PyProof.Rows L2 Evl
section
variable {c : Cn} {K : PySem.W.Frag} {ds : DS} {pl : List D} {Φ : W → List D → Prop} {te tl : TE}
theorem we_lcM {A : Type} {j : Nat} (as : List A) (enc f : A → D) (hl : as.length < sizeLine) (hj : ∀ (xs : List D), ds[j]? ≠ some (some (W.o xs)))
    (h : WE c tl ds pl (isD fun d p1 => d = .list (as.map enc) ∧ Φ (.d (.list (as.map f))) p1))
    (step : ∀ p1 a, a ∈ as → ∀ pin, WE { c with pin := pin } te ((wipeD ds [j]).set j (some (.d (enc a)))) p1 (isD fun y p2 => y = f a ∧ p2 = p1)) : WE c (tLc (iList K tl) (gName j) tYes te [j]) ds pl Φ := by
  refine we_lcL (fun i acc p => acc = (as.take i).map f ∧ Φ (.d (.list (as.map f))) p) (as.map enc) hj ?_ ?_ ?_
  · refine h.mono fun w p1 q => ?_
    cases w with
    | d x => exact ⟨q.1, rfl, q.2⟩
    | v x => exact q
    | o x => exact q
  · rintro i x acc p hx ⟨rfl, q⟩ pin
    rw [List.getElem?_map] at hx
    cases ha : as[i]? with
    | none => rw [ha] at hx; cases hx
    | some a =>
      rw [ha] at hx
      cases hx
      refine wt_yes ?_
      rw [if_pos rfl]
      refine (step p a (List.mem_of_getElem? ha) pin).mono fun w p2 q2 => ?_
      have hi := (List.getElem?_eq_some_iff.mp ha).1
      cases w with
      | d x =>
        obtain ⟨rfl, rfl⟩ := q2
        refine ⟨?_, ?_, q⟩
        · rw [List.length_map, List.length_take]; omega
        · rw [List.take_add_one, ha, List.map_append]; rfl
      | v x => exact q2
      | o x => exact q2
  · rintro acc p ⟨rfl, q⟩
    rw [List.length_map, List.take_length]
    exact q
theorem os_t2 {p2 r : List D} {x y z : D} (h : Φ (.d z) p2) : OpS c (rIx K) ds (.tuple (x :: y :: z :: r)) (.int 2) p2 Φ := os_ix (by
  show atI (x :: y :: z :: r) (((2 : Nat) : Int)) = some z
  exact atI_nat rfl) h
end
/-! ### mirrors -/
theorem mirror_trail {v : Dv} : ∀ (ms : List Int) (s : Sv), (∀ m ∈ ms, m ≠ 0) → trail (v.2, v.1) (s.1 - s.2, -s.2) (ms.map fun x => 0 - x) = (trail v s ms).map fun s => (s.1 - s.2, -s.2)
  | [], s, _ => rfl
  | m :: r, s, h => by
    show mv (v.2, v.1) (s.1 - s.2, -s.2) (0 - m) :: trail (v.2, v.1) (mv (v.2, v.1) (s.1 - s.2, -s.2) (0 - m)) (r.map fun x => 0 - x) = _
    rw [mirror_mv s (h m List.mem_cons_self), mirror_trail r (mv v s m) fun x hx => h x (List.mem_cons_of_mem _ hx)]
    rfl
theorem neg_last (acc : List Int) : (acc.map fun x => 0 - x).getLastD 0 = 0 - acc.getLastD 0 := by
  rw [List.getLastD_eq_getLast?, List.getLastD_eq_getLast?, List.getLast?_map]
  cases acc.getLast? with
  | none => rfl
  | some x => rfl
theorem last_in {acc : List Int} (h : acc ≠ []) : acc.getLastD 0 ∈ acc := last_mem h
theorem neg_sign {a b : Int} (ha : a ≠ 0) (hb : b ≠ 0) : (decide (0 < 0 - a) = decide (0 < 0 - b)) = (decide (0 < a) = decide (0 < b)) := by
  by_cases x : 0 < a <;> by_cases y : 0 < b
  · rw [decide_eq_false (show ¬ 0 < 0 - a by omega), decide_eq_false (show ¬ 0 < 0 - b by omega), decide_eq_true x, decide_eq_true y]; simp
  · rw [decide_eq_false (show ¬ 0 < 0 - a by omega), decide_eq_true (show 0 < 0 - b by omega), decide_eq_true x, decide_eq_false y]; simp
  · rw [decide_eq_true (show 0 < 0 - a by omega), decide_eq_false (show ¬ 0 < 0 - b by omega), decide_eq_false x, decide_eq_true y]; simp
  · rw [decide_eq_true (show 0 < 0 - a by omega), decide_eq_true (show 0 < 0 - b by omega), decide_eq_false x, decide_eq_false y]; simp
theorem joinR_neg {acc : List Int} {m : Int} (ha : ∀ x ∈ acc, x ≠ 0) (hm : m ≠ 0) : joinR (acc.map fun x => 0 - x) (0 - m) = (joinR acc m).map fun x => 0 - x := by
  unfold joinR
  rw [neg_last]
  by_cases e : acc = []
  · subst e
    rfl
  · have hl := ha _ (last_in e)
    have ns := neg_sign hl hm
    have e2 : (acc.map fun x => 0 - x) ≠ [] := fun z => e (List.map_eq_nil_iff.mp z)
    by_cases z : decide (0 < acc.getLastD 0) = decide (0 < m)
    · rw [if_pos ⟨e2, ns ▸ z⟩, if_pos ⟨e, z⟩, List.map_append, List.map_dropLast]
      congr 1
      show [0 - acc.getLastD 0 + (0 - m)] = [0 - (acc.getLastD 0 + m)]
      congr 1
      omega
    · rw [if_neg (fun q => z (ns ▸ q.2)), if_neg (fun q => z q.2), List.map_append]
      rfl
theorem joinF_neg : ∀ (ms acc : List Int), (∀ x ∈ acc, x ≠ 0) → (∀ x ∈ ms, x ≠ 0) → (ms.map fun x => 0 - x).foldl joinR (acc.map fun x => 0 - x) = (ms.foldl joinR acc).map fun x => 0 - x
  | [], acc, _, _ => rfl
  | m :: r, acc, ha, hm => by
    have m0 := hm m List.mem_cons_self
    show (r.map fun x => 0 - x).foldl joinR (joinR (acc.map fun x => 0 - x) (0 - m)) = (r.foldl joinR (joinR acc m)).map fun x => 0 - x
    rw [joinR_neg ha m0]
    exact joinF_neg r (joinR acc m) (joinR_nz ha m0) fun x hx => hm x (List.mem_cons_of_mem _ hx)
theorem joined_neg {ms : List Int} (h : ∀ x ∈ ms, x ≠ 0) : joined (ms.map fun x => 0 - x) = (joined ms).map fun x => 0 - x := joinF_neg ms [] (fun x hx => nomatch hx) h
theorem rp_mirror {v : Dv} {ms : List Int} (s : Sv) (h : ∀ m ∈ ms, m ≠ 0) : ∀ k : Nat, rp (v.2, v.1) (ms.map fun x => 0 - x) (s.1 - s.2, -s.2) k = ((rp v ms s k).1 - (rp v ms s k).2, -(rp v ms s k).2)
  | 0 => rfl
  | k + 1 => by
    show mvs (v.2, v.1) (rp (v.2, v.1) (ms.map fun x => 0 - x) (s.1 - s.2, -s.2) k) (ms.map fun x => 0 - x) = _
    rw [rp_mirror s h k, mirror_mvs ms (rp v ms s k) h]
    rfl
theorem plc_mirror (v : Dv) (s : Sv) : plc (v.2, v.1) (s.1 - s.2, -s.2) = ((plc v s).2, (plc v s).1) := by
  unfold plc
  have e : lf (s.1 - s.2, -s.2) = s.1 := by show s.1 - s.2 - -s.2 = s.1; omega
  rw [e]
theorem cyc_mirror {v : Dv} {ms : List Int} {s : Sv} (h : ∀ m ∈ ms, m ≠ 0) {n j : Nat} (c : Cyc v ms s n j) : Cyc (v.2, v.1) (ms.map fun x => 0 - x) (s.1 - s.2, -s.2) n j := by
  refine ⟨c.lt, ?_, fun i k hi hk e => c.inj i k hi hk ?_⟩
  · rw [rp_mirror s h, rp_mirror s h, plc_mirror, plc_mirror, c.eq]
  · rw [rp_mirror s h, rp_mirror s h, plc_mirror, plc_mirror] at e
    have e1 := congrArg Prod.fst e
    have e2 := congrArg Prod.snd e
    exact Prod.ext e2 e1
theorem mirr_okD' {a b k : Nat} {t : Sv} (h : t.1.natAbs ≤ a + k * (10 ^ 39 + 48) ∧ t.2.natAbs ≤ b + k * (10 ^ 39 + 48)) (h1 : a ≤ 10 ^ 41) (h2 : b ≤ 10 ^ 41) (h3 : k ≤ 41) : okD 20 (Sv.d (t.1 - t.2, -t.2)) := mirr_okD h1 h2 h3 h
theorem far_okD {t s : Sv} {x : Nat} (h1 : t.1.natAbs ≤ s.1.natAbs + x) (h2 : t.2.natAbs ≤ s.2.natAbs + x) (h3 : x ≤ 10 ^ 39 * (6 * (10 ^ 39 + 48))) (s1 : s.1.natAbs ≤ 10 ^ 40) (s2 : s.2.natAbs ≤ 10 ^ 39) : okD 20 (Sv.d (t.1 - t.2, -t.2)) := by
  have e : 10 ^ 39 * (6 * (10 ^ 39 + 48)) ≤ 10 ^ 80 := by decide +kernel
  exact Sv.okD (Nat.lt_of_le_of_lt (show (t.1 - t.2).natAbs ≤ 10 ^ 82 by omega) (by decide +kernel)) (Nat.lt_of_le_of_lt (show (-t.2).natAbs ≤ 10 ^ 82 by omega) (by decide +kernel)) 19
theorem mirr_okD2 (n : Nat) {a b k : Nat} {t : Sv} (h : t.1.natAbs ≤ a + k * (10 ^ 39 + 48) ∧ t.2.natAbs ≤ b + k * (10 ^ 39 + 48)) (h1 : a ≤ 10 ^ 41) (h2 : b ≤ 10 ^ 41) (h3 : k ≤ 41) : okD (n + 1) (Sv.d (t.1 - t.2, -t.2)) := by
  have h4 : k * (10 ^ 39 + 48) ≤ 41 * (10 ^ 39 + 48) := Nat.mul_le_mul_right _ h3
  exact Sv.okD (Nat.lt_of_le_of_lt (show (t.1 - t.2).natAbs ≤ 10 ^ 43 by omega) (by decide +kernel)) (Nat.lt_of_le_of_lt (show (-t.2).natAbs ≤ 10 ^ 43 by omega) (by decide +kernel)) n
end PD

/-! PD25: parted moves, moves joined twice, moves one time behind the other (mathematics) -/
namespace PD
open PySem PySem.Spec PyProof.Rows L2 Evl
theorem last_app (l : List Int) (x : Int) : (l ++ [x]).getLastD 0 = x := by simp
theorem joinR_iff (acc : List Int) (m : Int) : joinR acc m = acc ++ [m] ↔ ¬ (acc ≠ [] ∧ decide (0 < acc.getLastD 0) = decide (0 < m)) := by
  unfold joinR
  constructor
  · intro h z
    rw [if_pos z] at h
    have := congrArg List.length h
    rw [List.length_append, List.length_append, List.length_dropLast] at this
    have h0 : 0 < acc.length := List.length_pos_iff.mpr z.1
    simp at this
    omega
  · intro z
    rw [if_neg z]
theorem joinR_sign {acc : List Int} {a b : Int} (h : (0 < a) = (0 < b)) (e : joinR acc a = acc ++ [a]) : joinR acc b = acc ++ [b] := by
  rw [joinR_iff] at e ⊢
  rw [show decide (0 < b) = decide (0 < a) by simp [h]]
  exact e
theorem sum_sign {a b : Int} (ha : a ≠ 0) (hb : b ≠ 0) (h : (0 < a) = (0 < b)) : (0 < a) = (0 < a + b) ∧ a + b ≠ 0 := by
  by_cases z : 0 < a
  · have : 0 < b := by rw [← h]; exact z
    exact ⟨propext ⟨fun _ => by omega, fun _ => z⟩, by omega⟩
  · have : ¬ 0 < b := by rw [← h]; exact z
    exact ⟨propext ⟨fun y => absurd y z, fun y => by omega⟩, by omega⟩
theorem joinR_two {acc : List Int} (ha : ∀ x ∈ acc, x ≠ 0) {a b : Int} (a0 : a ≠ 0) (b0 : b ≠ 0) (h : (0 < a) = (0 < b)) : joinR (joinR acc a) b = joinR acc (a + b) := by
  obtain ⟨sg, s0⟩ := sum_sign a0 b0 h
  rcases joinR_cases acc a with ⟨dl, l, rfl, hs, e⟩ | e
  · have l0 := ha l (List.mem_append.mpr (.inr List.mem_cons_self))
    have hs' := same_sign hs
    obtain ⟨sl, _⟩ := sum_sign l0 a0 hs'
    rw [e]
    have e1 : joinR (dl ++ [l + a]) b = dl ++ [l + a + b] := by
      unfold joinR
      rw [if_pos ⟨by simp, by rw [last_app]; simp [← h, ← sl, hs']⟩, last_app, List.dropLast_concat]
    have e2 : joinR (dl ++ [l]) (a + b) = dl ++ [l + (a + b)] := by
      unfold joinR
      rw [if_pos ⟨by simp, by rw [last_app]; simp [hs', ← sg]⟩, last_app, List.dropLast_concat]
    rw [e1, e2, show l + a + b = l + (a + b) by omega]
  · rw [e, joinR_sign sg e]
    unfold joinR
    rw [if_pos ⟨by simp, by rw [last_app]; simp [h]⟩, last_app, List.dropLast_concat]
theorem joined_snoc (acc : List Int) (m : Int) : joined (acc ++ [m]) = joinR (joined acc) m := by unfold joined; rw [List.foldl_append]; rfl
theorem joined_le (acc : List Int) : (joined acc).length ≤ acc.length := by
  have := joined_len acc []
  unfold joined
  simp only [List.length_nil] at this
  omega
theorem joinR_joined {acc : List Int} {m : Int} (ha : ∀ x ∈ acc, x ≠ 0) (m0 : m ≠ 0) (h : joined acc = acc) : joined (joinR acc m) = joinR acc m := by
  rcases joinR_cases acc m with ⟨dl, l, rfl, hs, e⟩ | e
  · rw [e, joined_snoc]
    rw [joined_snoc] at h
    have l0 := ha l (List.mem_append.mpr (.inr List.mem_cons_self))
    have h1 := joined_le dl
    rcases joinR_cases (joined dl) l with ⟨dl2, l2, e2, _, e3⟩ | e3
    · rw [e3] at h
      have hl := congrArg List.length h
      rw [e2] at h1
      simp at hl h1
      omega
    · rw [e3] at h
      have ed : joined dl = dl := List.append_cancel_right h
      rw [ed] at e3 ⊢
      exact joinR_sign (sum_sign l0 m0 (same_sign hs)).1 e3
  · rw [e, joined_snoc, h, e]
theorem joinF_joined : ∀ (ms acc : List Int), (∀ x ∈ acc, x ≠ 0) → (∀ x ∈ ms, x ≠ 0) → joined acc = acc → joined (ms.foldl joinR acc) = ms.foldl joinR acc
  | [], acc, _, _, h => h
  | m :: r, acc, ha, hm, h => by
    have m0 := hm m List.mem_cons_self
    exact joinF_joined r (joinR acc m) (joinR_nz ha m0) (fun x hx => hm x (List.mem_cons_of_mem _ hx)) (joinR_joined ha m0 h)
theorem joined_joined {ms : List Int} (h : ∀ x ∈ ms, x ≠ 0) : joined (joined ms) = joined ms := joinF_joined ms [] (fun x hx => nomatch hx) h rfl
/-- parts of moves -/
theorem trail_take (v : Dv) : ∀ (s : Sv) (ms : List Int) (k : Nat), trail v s (ms.take k) = (trail v s ms).take k
  | _, [], k => by rw [List.take_nil]; show [] = List.take k []; rw [List.take_nil]
  | s, m :: r, 0 => rfl
  | s, m :: r, k + 1 => by
    show mv v s m :: trail v (mv v s m) (r.take k) = (mv v s m :: trail v (mv v s m) r).take (k + 1)
    rw [trail_take v (mv v s m) r k]
    rfl
theorem cut_takeD (xs : List D) (k : Nat) : cutD xs none (some (k : Int)) = xs.take k := by
  unfold cutD
  rw [HT.sIx_nat, HT.sIx_none, List.drop_zero, Nat.sub_zero, ← List.take_eq_take_min]
def repM (ms : List Int) (k : Nat) : List Int := (List.replicate k ms).flatten
theorem repM_map (ms : List Int) : ∀ k : Nat, repD (ms.map PyData.int) k = (repM ms k).map PyData.int
  | 0 => rfl
  | k + 1 => by
    have ih := repM_map ms k
    unfold repD repM at ih ⊢
    rw [List.replicate_succ, List.replicate_succ, List.flatten_cons, List.flatten_cons, List.map_append, ih]
theorem repM_len (ms : List Int) : ∀ k : Nat, (repM ms k).length = k * ms.length
  | 0 => by show 0 = 0 * _; omega
  | k + 1 => by
    have ih := repM_len ms k
    unfold repM at ih ⊢
    rw [List.replicate_succ, List.flatten_cons, List.length_append, ih, Nat.add_mul]
    omega
theorem repM_mem {ms : List Int} {P : Int → Prop} (h : ∀ x ∈ ms, P x) : ∀ k : Nat, ∀ x ∈ repM ms k, P x
  | 0 => fun x hx => nomatch hx
  | k + 1 => fun x hx => by
    have ih := repM_mem h k
    unfold repM at ih hx
    rw [List.replicate_succ, List.flatten_cons] at hx
    rcases List.mem_append.mp hx with z | z
    · exact h x z
    · exact ih x z
theorem rp_front (v : Dv) (ms : List Int) (s : Sv) : ∀ k : Nat, rp v ms (mvs v s ms) k = rp v ms s (k + 1)
  | 0 => rfl
  | k + 1 => by
    show mvs v (rp v ms (mvs v s ms) k) ms = _
    rw [rp_front v ms s k]
    rfl
theorem rp_flat (v : Dv) (ms : List Int) : ∀ (k : Nat) (s : Sv), mvs v s (repM ms k) = rp v ms s k
  | 0, s => rfl
  | k + 1, s => by
    have ih := rp_flat v ms k (mvs v s ms)
    unfold repM at ih ⊢
    rw [List.replicate_succ, List.flatten_cons, mvs_app, ih, rp_front]
theorem up_bounds {v : Dv} (ok : v.Ok) (s : Sv) {m : Int} (h : 0 < m) : s.1 ≤ (mv v s m).1 ∧ (mv v s m).1 ≤ s.1 + m := by
  rw [mv_up' h]
  have := slk_nn ok.2 (lf s)
  constructor
  · show s.1 ≤ s.1 + m - min m (slk v.2 (lf s)); omega
  · show s.1 + m - min m (slk v.2 (lf s)) ≤ s.1 + m; omega
theorem down_bounds {v : Dv} (ok : v.Ok) (s : Sv) {m : Int} (h : ¬ 0 < m) : (mv v s m).1 ≤ s.1 ∧ s.1 + m ≤ (mv v s m).1 ∧ flo v.1 s.1 ≤ (mv v s m).1 := by
  rw [mv_down h]
  have := flo_le ok.1 s.1
  refine ⟨?_, ?_, ?_⟩
  · show max (s.1 + m) (flo v.1 s.1) ≤ s.1; omega
  · show s.1 + m ≤ max (s.1 + m) (flo v.1 s.1); omega
  · show flo v.1 s.1 ≤ max (s.1 + m) (flo v.1 s.1); omega
section
variable {c : Cn} {K : PySem.W.Frag} {ds : DS} {pl : List D} {Φ : W → List D → Prop} {E : EE} {t : TS} {tr : TA}
/-- [x, y][0 or 1] -/
theorem os_pick2 {x y : D} {i : Int} {p2 : List D} (j : Nat) (hi : i = (j : Int) ∧ j ≤ 1) (h : Φ (.d (if j = 0 then x else y)) p2) : OpS c (rIx K) ds (.list [x, y]) (.int i) p2 Φ := by
  obtain ⟨rfl, hj⟩ := hi
  refine os_ix (e := if j = 0 then x else y) ?_ h
  by_cases z : j = 0
  · subst z; exact atI_nat rfl
  · have : j = 1 := by omega
    subst this; exact atI_nat rfl
/-- for over a range whose end is not known before -/
theorem ws_forR1E {j : Nat} (Pn : Nat → Prop) (I : Nat → DS → List D → Prop) (h : WA c tr ds pl fun xs p1 => ∃ n : Nat, xs = [.int (n : Int)] ∧ n < 100000 ∧ Pn n ∧ I 0 ds p1)
    (hs : ∀ n, Pn n → ∀ (i : Nat) ds' pl', i < n → I i ds' pl' → WS c t (ds'.set j (some (.d (.int i)))) pl' { nx := I (i + 1), ct := I (i + 1), bk := E.nx, rt := E.rt }) (hd : ∀ n, Pn n → ∀ ds' pl', I n ds' pl' → E.nx ds' pl') :
    WS c (tFor (iRng1 tr) (gName j) t) ds pl E := fun G σ H h0 D' f => h G σ H h0 _ fun vs G1 H1 xs p1 h1 e1 f1 ⟨n, e, b1, b2, g1⟩ => by
  subst e
  cases f1 with
  | cons r1 b =>
    cases b
    cases r1
    refine ⟨(n : Int), rfl, by omega, by omega, for_rng I h1 (f.up e1) g1 (fun i ds' pl' hi g => ?_) fun ds' pl' g => hd n b2 ds' pl' (by rw [Int.toNat_natCast] at g; exact g)⟩
    rw [Int.zero_add]
    exact hs n b2 i ds' pl' (by rw [Int.toNat_natCast] at hi; exact hi) g
end
section
variable {c : Cn} {K : PySem.W.Frag} {ds : DS} {pl : List D} {Φ : W → List D → Prop} {E : EE} {t u : TS} {tr : TA} {ta tb : TE} {tt : TT} {Ek : XK}
/-- a and b as a test of a statement whose two ways meet as they began -/
theorem ite_ws2 {b : Bool} (h1 : b = true → WT c tt ds pl fun b p1 => if b = true then WS c t ds p1 { E with nx := fun d p => d = ds ∧ p = pl } else WS c u ds p1 { E with nx := fun d p => d = ds ∧ p = pl })
    (h2 : b = false → WS c u ds pl { E with nx := fun d p => d = ds ∧ p = pl }) (hk : E.nx ds pl) :
    if b = true then WT c tt ds pl (fun b p1 => if b = true then WS c t ds p1 E else WS c u ds p1 E) else (if false = true then WS c t ds pl E else WS c u ds pl E) := by
  have up : ∀ {x : TS} {p}, WS c x ds p { E with nx := fun d p => d = ds ∧ p = pl } → WS c x ds p E := fun h => ws_mono h (fun d p ⟨e1, e2⟩ => by subst e1; subst e2; exact hk) (fun _ _ h => h) (fun _ _ h => h) fun _ _ h => h
  cases b with
  | true =>
    refine (h1 rfl).mono fun b p1 q => ?_
    cases b with
    | true => exact up q
    | false => exact up q
  | false => exact up (h2 rfl)
/-- x if b else y, the two meet -/
theorem ite_weP {b : Bool} (Q : D → List D → Prop) (h1 : b = true → WE c ta ds pl fun w p => ∃ x, w = .d x ∧ Q x p) (h2 : b = false → WE c tb ds pl fun w p => ∃ x, w = .d x ∧ Q x p) (hk : ∀ x p, Q x p → Φ (.d x) p) : if b = true then WE c ta ds pl Φ else WE c tb ds pl Φ := by
  cases b with
  | true => exact (h1 rfl).mono fun w p ⟨x, e1, q⟩ => by subst e1; exact hk x p q
  | false => exact (h2 rfl).mono fun w p ⟨x, e1, q⟩ => by subst e1; exact hk x p q
theorem we_newLE {A : Type} {enc : A → List D} {pre : A → Prop} {res : A → List D} (ha : WA c tr ds pl fun xs p1 => ∃ a, xs = enc a ∧ pre a ∧ Φ (.d (.list (res a))) p1) : WE c (tCall (spN (newL enc pre res)) [] Ek tr) ds pl Φ := we_callN (ha.mono fun xs p1 ⟨a, e, p, h⟩ => ⟨a, e, p, h⟩) newL_mono
theorem pw60 (e : Nat) (h : e ≤ 60) : (10 : Int) ^ e ≤ 10 ^ 60 := by
  have : (10:Nat)^e ≤ 10^60 := Nat.pow_le_pow_right (by decide) h
  have h2 : ((10 ^ e : Nat) : Int) ≤ ((10 ^ 60 : Nat) : Int) := Int.ofNat_le.mpr this
  simpa using h2
/-- a draw below [a, 10 ** e][draw] -/
theorem we_draw_far {i : Nat} {p : Addr} {a e : Int} {Ek2 : XK} (n : Nat) (hi : ds[i]? = some (some (.v (.ref p)))) (hp : c.pool = some p) (hP : Pk n pl) (hn : n < 8000000) (a1 : 1 ≤ a) (e0 : 0 ≤ e) (e1 : e ≤ 60) (ae : a ≤ 10 ^ e.toNat)
    (k : ∀ z p2, 0 ≤ z → z < 10 ^ e.toNat → Pk (n + 2) p2 → Φ (.d (.int z)) p2) :
    WE c (tCall (spO drawF) [] Ek (tCons (tVar i) (tCons (tOp (rIx K) (tLst (tCons (tC (.int a)) (tCons (tOp (rI CPowW fun i j => .int (i ^ j.toNat)) (tC (.int 10)) (tC (.int e))) tNil))) (tCall (spO drawF) [] Ek2 (tCons (tVar i) (tCons (tC (.int 2)) tNil)))) tNil))) ds pl Φ := by
  refine we_poolE hi hp ?_
  refine wa_cons (we_far n hi hp hP (by omega) a1 e0 e1 ae fun far p2 f0 f1 hP2 => ?_)
  have big : (10 : Int) ^ e.toNat < 2 ^ 200 := by
    have h1 : (10 : Int) ^ e.toNat ≤ 10 ^ 60 := pw60 e.toNat (by omega)
    have h2 : (10 : Int) ^ 60 < 2 ^ 200 := by decide +kernel
    omega
  refine wa_nil ⟨far, rfl, ⟨by omega, by omega⟩, n + 1, hP2, by omega, fun d p3 ⟨z, hz, z0, z1⟩ hP3 => ?_⟩
  subst hz
  exact k z p3 z0 (by omega) hP3
end
end PD

/-! PD26: three names at once; an owned list lent to a call whose answer is dropped -/
namespace PD
open PySem PySem.Spec PyProof.Rows L2 Evl
section
variable {c : Cn} {K : PySem.W.Frag} {ds : DS} {pl : List D} {t u : TS} {D' : Ends} {G0 : Hp} {E : EE} {Φ : W → List D → Prop} {te : TE} {tr : TA}
/-- xs, d, y = [], {}, z -/
theorem wsk_par3 {i j l m : Nat} {x : D} (hm : ds[m]? = some (some (.d x))) (h : ∀ p, Fresh c (one p (.dT [])) → WSK (c.pinP (one p (.dT []))) u (((ds.set i (some (.o []))).set j (some (.v (.ref p)))).set l (some (.d x))) pl D' G0) :
    WSK c (tSeq (tPar3 i j l (tCons (tLst tNil) (tCons tDNewT (tCons (tVar m) tNil)))) u) ds pl D' G0 := fun G σ H hs e => by
  refine ⟨Nat.zero_le _, fun a ha p hp => ?_⟩
  obtain ⟨v, e1, e2⟩ := hs.slots m _ hm
  have h1 : HS c G (σ.set i (some (.ref a))) (upd H a (.lst [])) (ds.set i (some (.o []))) pl := hs.newO ha .nil i
  have n := h1.none_of hp
  have F : Fresh c (one p (.dT [])) := fun b o q => by
    obtain ⟨rfl, rfl⟩ := one_some q
    exact ⟨n.2.2.2.2, n.2.2.1, n.2.1, n.2.2.2.1⟩
  refine ⟨v, e1, _, _, _, rfl, ?_⟩
  refine h p F G _ _ (((h1.pinNew (Ex.new hp) fun b o q => ?_).setV j (.ref p)).set (w := .d x) e2 fun xs z => by cases z) e
  obtain ⟨rfl, rfl⟩ := one_some q
  exact ⟨upd_same, hp⟩
/-- an owned list lent to a call whose answer is dropped -/
theorem ws_dropLendE {i : Nat} {xs : List D} (hi : ds[i]? = some (some (.o xs))) (only : ∀ (j : Nat) (ys : List D), ds[j]? = some (some (W.o ys)) → j = i) (h : WE c te (ds.set i (some (.d (.list xs)))) pl fun _ p1 => ((∃ n, Pk n p1) ∨ c.pool = none) ∧ E.nx ds p1) : WS c (tDrop te) ds pl E := fun G σ H hs D' f => by
  have wt : WT c (fun σ H Q => te σ H fun _ H1 => Q true H1) (ds.set i (some (.d (.list xs)))) pl fun _ p1 => ((∃ n, Pk n p1) ∨ c.pool = none) ∧ E.nx ds p1 := fun G σ H hs Q q => h G σ H hs _ fun v G' H' w p1 h1 e1 f1 g1 => q true G' H' p1 h1 e1 g1
  exact wt_lend (Ψ := fun _ p1 => E.nx ds p1) hi only wt G σ H hs (fun _ H1 => D'.nx σ H1) fun b G' H' p1 h1 e1 g1 => f.nx G' σ H' ds p1 h1 e1 g1
end
theorem Cyc.step {v : Dv} (ok : v.Ok) {ms : List Int} {s : Sv} {n j t : Nat} (c : Cyc v ms s n j) (h : j ≤ t) : rp v ms s (t + (n - j)) = ((rp v ms s t).1 + ((rp v ms s n).1 - (rp v ms s j).1), (rp v ms s t).2 + (((n - j : Nat) : Int)) * ms.sum) := by
  have lt := c.lt
  ext
  · have e := c.shift ok (t - j)
    rw [show n + (t - j) = t + (n - j) by omega, show j + (t - j) = t by omega] at e
    exact e
  · show (rp v ms s (t + (n - j))).2 = (rp v ms s t).2 + _
    rw [rp_hand, rp_hand, show ((t + (n - j) : Nat) : Int) = (t : Int) + ((n - j : Nat) : Int) by omega, Int.add_mul]
    omega
theorem rp_okD {v : Dv} (ok : v.Ok) {ms : List Int} {s : Sv} (ml : ms.length ≤ 40) (mb : ∀ m ∈ ms, m.natAbs ≤ 10 ^ 40) (s1 : s.1.natAbs ≤ 10 ^ 41) (s2 : s.2.natAbs ≤ 10 ^ 41) {t : Nat} (ht : t ≤ 10 ^ 41) (n : Nat) : okD (n + 1) (rp v ms s t).d ∧ (rp v ms s t).1.natAbs ≤ 10 ^ 84 ∧ (rp v ms s t).2.natAbs ≤ 10 ^ 84 := by
  have rb := rp_bound ok (M := 10 ^ 40) mb s t
  have r2 : t * (ms.length * (10 ^ 40 + 48)) ≤ 10 ^ 41 * (40 * (10 ^ 40 + 48)) := Nat.mul_le_mul ht (Nat.mul_le_mul_right _ ml)
  have e : 10 ^ 41 * (40 * (10 ^ 40 + 48)) ≤ 10 ^ 83 := by decide +kernel
  have a1 : (rp v ms s t).1.natAbs ≤ 10 ^ 84 := by omega
  have a2 : (rp v ms s t).2.natAbs ≤ 10 ^ 84 := by omega
  exact ⟨Sv.okD (Nat.lt_of_le_of_lt a1 (by decide +kernel)) (Nat.lt_of_le_of_lt a2 (by decide +kernel)) n, a1, a2⟩
end PD

/-! PD27: a and b that meet; a last move that brings the hand back; written devices -/
namespace PD
open PySem PySem.Spec PyProof.Rows L2 Evl
section
variable {c : Cn} {K : PySem.W.Frag} {ds : DS} {pl : List D} {Φ : W → List D → Prop} {ta tb : TE} {tr : TA} {Ek : XK}
theorem we_andVP (Q : Bool → List D → Prop) (h : WE c ta ds pl (isB fun b p1 => if b = true then WE c tb ds p1 (isB Q) else Q false p1)) (k : ∀ b p, Q b p → Φ (.d (.bool b)) p) : WE c (tAndV ta tb) ds pl Φ := by
  refine we_andV (h.mono fun w p1 q => ?_)
  cases w with
  | d x =>
    cases x with
    | bool b =>
      cases b with
      | true =>
        refine (show WE c tb ds p1 (isB Q) from q).mono fun w2 p2 q2 => ?_
        cases w2 with
        | d y =>
          cases y with
          | bool b2 => exact k b2 p2 q2
          | _ => exact q2.elim
        | v y => exact q2.elim
        | o y => exact q2.elim
      | false => exact k false p1 q
    | _ => exact q
  | v x => exact q
  | o x => exact q
theorem bool_nat (b : Bool) : (if b = true then (1 : Int) else 0) = (((if b = true then 1 else 0 : Nat)) : Int) := by cases b <;> rfl
end
theorem back_list (ms : List Int) (b : Bool) : ms.map PyData.int ++ repD [PyData.int (0 - ms.sum)] (if b = true then 1 else 0) = (ms ++ (if b = true then [0 - ms.sum] else [])).map PyData.int := by
  cases b
  · rw [List.map_append]; rfl
  · rw [List.map_append]; rfl
abbrev c3 : Comb := ⟨3, [0]⟩
abbrev c5 : Comb := ⟨5, [0]⟩
abbrev c10 : Comb := ⟨10, [0]⟩
abbrev c103 : Comb := ⟨10, [0, 3]⟩
theorem ok_c3 : c3.Ok := ⟨by decide, by decide, by decide, by decide, by decide, by decide⟩
theorem ok_c5 : c5.Ok := ⟨by decide, by decide, by decide, by decide, by decide, by decide⟩
theorem ok_c10 : c10.Ok := ⟨by decide, by decide, by decide, by decide, by decide, by decide⟩
theorem ok_c103 : c103.Ok := ⟨by decide, by decide, by decide, by decide, by decide, by decide⟩
theorem ok_nar : Dv.Ok (c3, c5) := ⟨ok_c3, ok_c5⟩
theorem ok_wide : Dv.Ok (c103, c10) := ⟨ok_c103, ok_c10⟩
theorem cyc_nar : Cyc (c3, c5) [10, -10] (0, 0) 2 0 := ⟨by decide, by decide +kernel, fun i k h1 h2 => by
  have e1 : i = 0 := by omega
  have e2 : k = 1 := by omega
  subst e1 e2
  decide +kernel⟩
theorem far_nar (t : Nat) : rp (c3, c5) [10, -10] (0, 0) t = ((rp (c3, c5) [10, -10] (0, 0) (t % 2)).1 + ((t / 2 : Nat) : Int) * 15, 0) := by
  have h := cyc_nar.far ok_nar (Nat.zero_le t)
  have e15 : (rp (c3, c5) [10, -10] (0, 0) 2).1 - (rp (c3, c5) [10, -10] (0, 0) 0).1 = 15 := by decide +kernel
  rw [e15] at h
  simp only [Nat.sub_zero, Nat.zero_add] at h
  ext
  · exact h.symm
  · show (rp (c3, c5) [10, -10] (0, 0) t).2 = 0
    rw [rp_hand]
    show (0 : Int) + (t : Int) * (10 + (-10 + 0)) = 0
    simp
end PD

/-! PD28: comprehensions over enumerate, over pairs; in and index of data of any depth; lists begun with items -/
namespace PD
open PySem PySem.Spec PyProof.Rows L2 Evl
theorem hu65 {A : Around} {k : Nat} (hr : Room k A) : A.units + 65 < cLine := by have := hr.un; omega
section
variable {c : Cn} {K : PySem.W.Frag} {ds : DS} {pl : List D} {Φ : W → List D → Prop} {te tl : TE} {tr : TA} {tt : TT} {σ : L2.St} {E : EE} {t : TS}
/-- [e for i, x in enumerate(xs) if t] -/
theorem we_lcE {j1 j2 : Nat} (J : Nat → List D → List D → Prop) (xs : List D) (hj : ∀ (xs : List D), ds[j1]? ≠ some (some (W.o xs)) ∧ ds[j2]? ≠ some (some (W.o xs)))
    (h : WA c tr ds pl fun zs p1 => zs = [.list xs] ∧ J 0 [] p1)
    (user : ∀ (i : Nat) x acc pl', xs[i]? = some x → J i acc pl' → ∀ pin, WT { c with pin := pin } tt (((wipeD ds [j1, j2]).set j1 (some (.d (.int (i : Int))))).set j2 (some (.d x))) pl' fun b p2 =>
      if b = true then WE { c with pin := pin } te (((wipeD ds [j1, j2]).set j1 (some (.d (.int (i : Int))))).set j2 (some (.d x))) p2 (isD fun y p3 => acc.length < sizeLine ∧ J (i + 1) (acc ++ [y]) p3) else J (i + 1) acc p2)
    (hq : ∀ acc pl', J xs.length acc pl' → Φ (.d (.list acc)) pl') : WE c (tLc (iEnum K tr) (gTup K 2 (gCons (gName j1) (gCons (gName j2) gNil))) tt te [j1, j2]) ds pl Φ := fun G σ H h0 Q q => h G σ H h0 _ fun vs G1 H1 zs p1 h1 e1 f1 ⟨ez, g1⟩ => by
  subst ez
  obtain ⟨v, rfl, r1⟩ := ra1 f1
  cases r1 with
  | @lst a us1 _ a1 b1 =>
  refine ⟨a, us1, rfl, SqL.of (h1.sub _ _ a1), fun Dl hD => ?_⟩
  have f := df_new h1 hD
  refine ⟨fun i m H' => m = us1.length - i ∧ i ≤ us1.length ∧ PvC c σ ds G1 Dl J i H', ⟨us1.length, by simp, Nat.zero_le _, pv_start J h1 hD g1⟩, ?_⟩
  rintro i m H' ⟨rfl, hi, p⟩
  obtain ⟨G', pl', acc, us, h2, e2, hD2, ra, gD, hJ⟩ := id p
  have sq1 : SqL K H' a us1 := SqL.of (h2.sub _ _ (e2 _ _ a1))
  by_cases hlt : i < us1.length
  · refine .inr ⟨⟨us1, us1[i], sq1, by simp [hlt]⟩, PvC c σ ds G1 Dl J (i + 1), fun H3 q => ⟨us1.length - (i + 1), by omega, rfl, hlt, q⟩, ?_⟩
    rintro x H3 ⟨T, x2, rfl, hT, rfl, y1⟩
    obtain ⟨d2, hd2, hr2⟩ := b1.get' (y1 us1 sq1)
    have n := h2.none_of hT
    have e3 : Ex G' (upd G' T (.tup [.int (i : Nat), x2])) := Ex.new n.1
    refine ⟨T, _, rfl, SqT.of upd_same, rfl, _, _, rfl, _, _, rfl, rfl, wipe_set2 σ j1 j2 _ x2, ?_⟩
    have hw := (((h2.newD (o := .tup [.int (i : Nat), x2]) hT).wipe [j1, j2]).set (i := j1) (w := .d (.int (i : Int))) (R.int _) fun xs z => by cases z).set (i := j2) (w := .d d2) (R.up hr2 (e2.trans e3)) fun xs z => by cases z
    obtain ⟨f2, same⟩ := two_slots (v1 := .int (i : Int)) (v2 := x2) (d1 := .int (i : Int)) (d2 := d2) f hj
    refine lc_turnG J f f2 same h2 hw e2 e3 (by rw [upd_ne (ne_of_none hD2 hT)]; exact hD2) ?_ ra (fun pin => user i d2 acc pl' hd2 hJ pin) hJ
    rw [upd_ne (ne_of_none hD2 hT)]
    exact gD
  · have ei : i = us1.length := by omega
    subst ei
    rw [b1.len] at p
    exact .inl ⟨⟨us1, sq1, Nat.le_refl _⟩, pv_end f p hq fun v G' H' w pl' h2 e2 f2 g2 => q v G' H' w pl' h2 (e1.trans e2) f2 g2⟩
/-- [e for a, b in xs if t]: xs a list of pairs -/
theorem we_lcP {j1 j2 : Nat} (J : Nat → List D → List D → Prop) (xs : List (D × D)) (hj : ∀ (xs : List D), ds[j1]? ≠ some (some (W.o xs)) ∧ ds[j2]? ≠ some (some (W.o xs)))
    (h : WE c tl ds pl (isD fun d p1 => d = .list (xs.map fun x => .tuple [x.1, x.2]) ∧ J 0 [] p1))
    (user : ∀ (i : Nat) x acc pl', xs[i]? = some x → J i acc pl' → ∀ pin, WT { c with pin := pin } tt (((wipeD ds [j1, j2]).set j1 (some (.d x.1))).set j2 (some (.d x.2))) pl' fun b p2 =>
      if b = true then WE { c with pin := pin } te (((wipeD ds [j1, j2]).set j1 (some (.d x.1))).set j2 (some (.d x.2))) p2 (isD fun y p3 => acc.length < sizeLine ∧ J (i + 1) (acc ++ [y]) p3) else J (i + 1) acc p2)
    (hq : ∀ acc pl', J xs.length acc pl' → Φ (.d (.list acc)) pl') : WE c (tLc (iList K tl) (gTup K 2 (gCons (gName j1) (gCons (gName j2) gNil))) tt te [j1, j2]) ds pl Φ := fun G σ H h0 Q q => h G σ H h0 _ fun v G1 H1 w p1 h1 e1 f1 g1 => by
  match w, f1, g1 with
  | .d d, f1, ⟨ed, g1⟩ =>
    subst ed
    cases f1 with
    | @lst a vs _ a1 b1 =>
    refine ⟨a, rfl, ⟨vs, SqL.of (h1.sub _ _ a1)⟩, fun Dl hD => ?_⟩
    have f := df_new h1 hD
    refine lc_list (K := K) (a := a) (xs := vs) (PvC c σ ds G1 Dl J) (pv_start J h1 hD g1) ?_ ?_ ?_
    · rintro i H' _ ⟨G', pl', acc, us, h2, e2, _⟩
      exact SqL.of (h2.sub _ _ (e2 _ _ a1))
    · intro i x H' hx p
      obtain ⟨G', pl', acc, us, h2, e2, hD2, ra, gD, hJ⟩ := id p
      obtain ⟨d, hd1, hd2⟩ := b1.get' hx
      rw [List.getElem?_map] at hd1
      cases hxi : xs[i]? with
      | none => rw [hxi] at hd1; cases hd1
      | some z =>
        rw [hxi] at hd1
        cases hd1
        obtain ⟨T, x1, x2, rfl, k1, k2, k3⟩ := pair_raw hd2
        have kH : H' T = some (.tup [x1, x2]) := h2.sub _ _ (e2 _ _ k1)
        refine ⟨T, _, rfl, SqT.of kH, rfl, _, _, rfl, _, _, rfl, rfl, wipe_set2 σ j1 j2 x1 x2, ?_⟩
        have hw := ((h2.wipe [j1, j2]).set (i := j1) (w := .d z.1) (R.up k2 e2) fun xs z => by cases z).set (i := j2) (w := .d z.2) (R.up k3 e2) fun xs z => by cases z
        obtain ⟨f2, same⟩ := two_slots (v1 := x1) (v2 := x2) (d1 := z.1) (d2 := z.2) f hj
        exact lc_turnG J f f2 same h2 hw e2 (Ex.refl _) hD2 gD ra (fun pin => user i z acc pl' hxi hJ pin) hJ
    · intro H' p
      rw [b1.len, List.length_map] at p
      exact pv_end f p hq fun v G' H' w pl' h2 e2 f2 g2 => q v G' H' w pl' h2 (e1.trans e2) f2 g2
theorem os_inD {x : D} {xs : List D} {p2 : List D} (h1 : SeqAt.shaped x = true) (h2 : SeqAt.shaped (.list xs) = true) (h : Φ (.d (.bool (xs.any fun z => PyData.eqv z x))) p2) : OpS c (rInD K) ds x (.list xs) p2 Φ := fun G σ H v u hs hv hu Q q =>
  ⟨x, xs, R.dp _ _ (hv.h hs.sub), R.dp _ _ (hu.h hs.sub), h1, h2, q _ G H (.d _) p2 hs (Ex.refl _) (R.bl _) h⟩
/-- xs.index(x), xs data in a slot -/
theorem we_indexD {i : Nat} {xs : List D} (hi : ds[i]? = some (some (.d (.list xs)))) (s1 : SeqAt.shaped (.list xs) = true) (h : WE c te ds pl (isD fun x p1 => SeqAt.shaped x = true ∧ ∃ (j : Nat) (z : D), xs[j]? = some z ∧ PyData.eqv z x = true ∧ (∀ (m : Nat) (z' : D), m < j → xs[m]? = some z' → PyData.eqv z' x = false) ∧ Φ (.d (.int (j : Int))) p1)) :
    WE c (tBM K "list" (rIndexD K) (tVar i) (tCons te tNil)) ds pl Φ := fun G σ H hs Q q => by
  obtain ⟨v, e1, e2⟩ := hs.slots i _ hi
  have e2' : R G v (.list xs) := e2
  obtain ⟨p, us, rfl, b1, b2⟩ := RT.list (.inl e2') hs.sub
  refine ⟨_, e1, .inl ⟨rfl, _, SqL.of b1⟩, ?_⟩
  refine h G σ H hs _ fun u G1 H1 w p1 h1 e3 f1 g1 => ?_
  match w, f1, g1 with
  | .d x, f1, ⟨s2, j, z, z1, z2, z3, g2⟩ =>
    exact ⟨p, u, x, xs, j, z, rfl, rfl, R.dp _ _ (R.up e2' (e3.trans h1.sub)), R.dp _ _ (R.up f1 h1.sub), s1, s2, z1, z2, z3, q _ G1 H1 (.d _) p1 h1 e3 (R.int _) g2⟩
/-- xs, y = [a], b of data in slots -/
theorem ws_par1 {i j m m2 : Nat} {x y : D} (hm : ds[m]? = some (some (.d x))) (hm2 : ds[m2]? = some (some (.d y))) (h : E.nx ((ds.set i (some (.o [x]))).set j (some (.d y))) pl) : WS c (tPar i j (tCons (tLst (tCons (tVar m) tNil)) (tCons (tVar m2) tNil))) ds pl E := fun G σ H hs D' f => by
  obtain ⟨v, e1, e2⟩ := hs.slots m _ hm
  obtain ⟨v2, d1, d2⟩ := hs.slots m2 _ hm2
  refine ⟨v, e1, by show 1 ≤ sizeLine; decide, fun p hp => ⟨v2, d1, _, _, rfl, ?_⟩⟩
  exact f.nx G _ _ _ pl ((hs.newO hp (.cons (show R G v x from e2) .nil) i).set (w := .d y) d2 fun xs z => by cases z) (Ex.refl _) h
/-- over a list that is met behind -/
theorem ws_forLE {j : Nat} {tl : TE} (P : List D → Prop) (I : Nat → DS → List D → Prop) (h : WE c tl ds pl (isD fun d p1 => ∃ xs, d = .list xs ∧ P xs ∧ I 0 ds p1))
    (hs : ∀ xs, P xs → ∀ i x ds' pl', xs[i]? = some x → I i ds' pl' → WS c t (ds'.set j (some (.d x))) pl' { nx := I (i + 1), ct := I (i + 1), bk := E.nx, rt := E.rt }) (hd : ∀ xs, P xs → ∀ ds' pl', I xs.length ds' pl' → E.nx ds' pl') :
    WS c (tFor (iList K tl) (gName j) t) ds pl E := fun G σ H h0 D' f => h G σ H h0 _ fun v G1 H1 w p1 h1 e1 f1 g1 => by
  match w, f1, g1 with
  | .d d, f1, ⟨xs, ed, hP, g1⟩ =>
    subst ed
    cases f1 with
    | @lst a vs _ a1 b1 =>
    refine ⟨a, rfl, ⟨vs, SqL.of (h1.sub _ _ a1)⟩, for_list (K := K) (a := a) (xs := vs) (fun i σ' H' => ∃ G' ds' pl', HS c G' σ' H' ds' pl' ∧ Ex G1 G' ∧ I i ds' pl') ⟨G1, ds, p1, h1, Ex.refl _, g1⟩ ?_ ?_ ?_⟩
    · rintro i σ' H' _ ⟨G', ds', pl', h2, e2, _⟩
      exact SqL.of (h2.sub _ _ (e2 _ _ a1))
    · rintro i x σ' H' hx ⟨G', ds', pl', h2, e2, g2⟩
      obtain ⟨d, hd1, hd2⟩ := b1.get' hx
      refine hs xs hP i d ds' pl' hd1 g2 G' _ H' (h2.set (w := .d d) (R.up hd2 e2) fun xs z => by cases z) _ ⟨?_, ?_, ?_, ?_⟩
      · exact fun G3 σ3 H3 ds3 pl3 h3 e3 g3 => ⟨G3, ds3, pl3, h3, e2.trans e3, g3⟩
      · exact fun v G3 σ3 H3 ds3 w3 pl3 h3 e3 q3 g3 => f.rt v G3 σ3 H3 ds3 w3 pl3 h3 ((e1.trans e2).trans e3) q3 g3
      · exact fun G3 σ3 H3 ds3 pl3 h3 e3 g3 => f.nx G3 σ3 H3 ds3 pl3 h3 ((e1.trans e2).trans e3) g3
      · exact fun G3 σ3 H3 ds3 pl3 h3 e3 g3 => ⟨G3, ds3, pl3, h3, e2.trans e3, g3⟩
    · rintro σ' H' ⟨G', ds', pl', h2, e2, g2⟩
      rw [b1.len] at g2
      exact f.nx G' σ' H' ds' pl' h2 (e1.trans e2) (hd xs hP _ _ g2)
end
end PD

/-! PD29: starts that come again, in a list of starts (mathematics) -/
namespace PD
open PySem PySem.Spec PyProof.Rows L2 Evl
abbrev ptD (a : Int × Int) : D := .tuple [.int a.1, .int a.2]
theorem eqv_pt (a b : Int × Int) : PyData.eqv (ptD a) (ptD b) = decide (a = b) := by
  obtain ⟨a1, a2⟩ := a
  obtain ⟨b1, b2⟩ := b
  have e : PyData.eqv (ptD (a1, a2)) (ptD (b1, b2)) = ((a1 == b1) && ((a2 == b2) && true)) := rfl
  rw [e]
  by_cases h1 : a1 = b1
  · by_cases h2 : a2 = b2
    · subst h1 h2; simp
    · simp [h2]
  · simp [h1]
theorem ptD_shaped (a : Int × Int) : SeqAt.shaped (ptD a) = true := rfl
section
variable (v : Dv) (ms : List Int) (s : Sv)
def sts (n : Nat) : List D := (List.range n).map fun i => ptD (plc v (rp v ms s i))
/-- the place of i has come before -/
def seenB (i : Nat) : Bool := (sts v ms s i).any fun z => PyData.eqv z (ptD (plc v (rp v ms s i)))
theorem sts_len (n : Nat) : (sts v ms s n).length = n := by unfold sts; rw [List.length_map, List.length_range]
theorem sts_succ (n : Nat) : sts v ms s (n + 1) = sts v ms s n ++ [ptD (plc v (rp v ms s n))] := by unfold sts; rw [List.range_succ, List.map_append]; rfl
theorem sts_get {n i : Nat} (h : i < n) : (sts v ms s n)[i]? = some (ptD (plc v (rp v ms s i))) := by
  unfold sts
  rw [List.getElem?_map, List.getElem?_range h]
  rfl
theorem sts_take {n i : Nat} (h : i ≤ n) : (sts v ms s n).take i = sts v ms s i := by
  unfold sts
  rw [← List.map_take, List.take_range, Nat.min_eq_left h]
theorem seenB_iff (i : Nat) : seenB v ms s i = true ↔ ∃ i', i' < i ∧ plc v (rp v ms s i') = plc v (rp v ms s i) := by
  unfold seenB
  rw [List.any_eq_true]
  constructor
  · rintro ⟨x, hx, e⟩
    unfold sts at hx
    obtain ⟨i', h1, rfl⟩ := List.mem_map.mp hx
    rw [eqv_pt] at e
    exact ⟨i', List.mem_range.mp h1, of_decide_eq_true e⟩
  · rintro ⟨i', h1, e⟩
    refine ⟨ptD (plc v (rp v ms s i')), List.mem_map.mpr ⟨i', List.mem_range.mpr h1, rfl⟩, ?_⟩
    rw [eqv_pt]
    exact decide_eq_true e
variable {v ms s}
theorem Cyc.seen {n j : Nat} (c : Cyc v ms s n j) : seenB v ms s n = true := (seenB_iff v ms s n).mpr ⟨j, c.lt, c.eq⟩
theorem Cyc.fresh {n j i : Nat} (c : Cyc v ms s n j) (h : i < n) : seenB v ms s i = false := by
  cases e : seenB v ms s i with
  | false => rfl
  | true =>
    obtain ⟨i', h1, h2⟩ := (seenB_iff v ms s i).mp e
    exact absurd h2 (c.inj i' i h1 h)
theorem head_filter {B : Nat → Bool} {n : Nat} (hb : B n = true) (hf : ∀ i, i < n → B i = false) : ∀ m : Nat, ∃ r, (List.range (n + 1 + m)).filter B = n :: r
  | 0 => by
    refine ⟨[], ?_⟩
    rw [Nat.add_zero, List.range_succ, List.filter_append, List.filter_eq_nil_iff.mpr fun x hx => by rw [hf x (List.mem_range.mp hx)]; simp]
    show ([n] : List Nat).filter B = [n]
    rw [List.filter_cons, if_pos hb]
    rfl
  | m + 1 => by
    obtain ⟨r, e⟩ := head_filter hb hf m
    refine ⟨r ++ [n + 1 + m].filter B, ?_⟩
    rw [show n + 1 + (m + 1) = n + 1 + m + 1 by omega, List.range_succ, List.filter_append, e]
    rfl
theorem Cyc.again {n j m : Nat} (c : Cyc v ms s n j) : ((List.range m).filter (seenB v ms s) = [] ∧ m ≤ n) ∨ (n < m ∧ ∃ r, (List.range m).filter (seenB v ms s) = n :: r) := by
  by_cases h : n < m
  · refine .inr ⟨h, ?_⟩
    obtain ⟨r, e⟩ := head_filter c.seen (fun i hi => c.fresh hi) (m - n - 1)
    rw [show n + 1 + (m - n - 1) = m by omega] at e
    exact ⟨r, e⟩
  · refine .inl ⟨List.filter_eq_nil_iff.mpr fun x hx => ?_, by omega⟩
    rw [c.fresh (by have := List.mem_range.mp hx; omega)]
    simp
end
theorem sts_ok (v : Dv) (ok : v.Ok) (ms : List Int) (s : Sv) (n : Nat) : okD 20 (.list (sts v ms s n)) := fun x hx => by
  unfold sts at hx
  obtain ⟨i, _, rfl⟩ := List.mem_map.mp hx
  have p1 := ok.1.p1
  have p2 := ok.1.p24
  have q1 := ok.2.p1
  have q2 := ok.2.p24
  have a1 := Int.emod_nonneg (rp v ms s i).1 (show v.1.p ≠ 0 by omega)
  have a2 := Int.emod_lt_of_pos (rp v ms s i).1 (show 0 < v.1.p by omega)
  have a3 := Int.emod_nonneg (lf (rp v ms s i)) (show v.2.p ≠ 0 by omega)
  have a4 := Int.emod_lt_of_pos (lf (rp v ms s i)) (show 0 < v.2.p by omega)
  exact Sv.okD (s := plc v (rp v ms s i)) (Nat.lt_of_le_of_lt (show ((rp v ms s i).1 % v.1.p).natAbs ≤ 24 by omega) (by decide +kernel)) (Nat.lt_of_le_of_lt (show (lf (rp v ms s i) % v.2.p).natAbs ≤ 24 by omega) (by decide +kernel)) 18
theorem natL_ok (l : List Nat) (h : ∀ x ∈ l, x ≤ 1000) : okD 20 (.list (l.map fun (k : Nat) => PyData.int (k : Int))) := fun x hx => by
  obtain ⟨k, hk, rfl⟩ := List.mem_map.mp hx
  have := h k hk
  exact Nat.lt_of_le_of_lt (show ((k : Nat) : Int).natAbs ≤ 1000 by omega) (by decide +kernel)
def rows (v : Dv) (ms : List Int) (s : Sv) (n : Nat) : List D := (List.range n).map fun i => Sv.d (rp v ms s i)
theorem rows_len (v : Dv) (ms : List Int) (s : Sv) (n : Nat) : (rows v ms s n).length = n := by unfold rows; rw [List.length_map, List.length_range]
theorem rows_succ (v : Dv) (ms : List Int) (s : Sv) (n : Nat) : rows v ms s (n + 1) = rows v ms s n ++ [Sv.d (rp v ms s n)] := by unfold rows; rw [List.range_succ, List.map_append]; rfl
theorem rows_at (v : Dv) (ms : List Int) (s : Sv) {n i : Nat} (h : i < n) : atI (rows v ms s n) (i : Int) = some (Sv.d (rp v ms s i)) := atI_nat (by
  unfold rows
  rw [List.getElem?_map, List.getElem?_range h]
  rfl)
theorem rows_pairs (v : Dv) (ms : List Int) (s : Sv) (n : Nat) : rows v ms s n = ((List.range n).map fun i => (PyData.int (rp v ms s i).1, PyData.int (rp v ms s i).2)).map fun x => .tuple [x.1, x.2] := by
  unfold rows
  rw [List.map_map]
  rfl
end PD

/-! PD30: cycles of written devices -/
namespace PD
open PySem PySem.Spec PyProof.Rows L2 Evl
theorem cyc_of {v : Dv} {ms : List Int} {s : Sv} {n j : Nat} (lt : j < n) (e : plc v (rp v ms s j) = plc v (rp v ms s n)) (inj : ∀ k, k < n → ∀ i, i < k → plc v (rp v ms s i) ≠ plc v (rp v ms s k)) : Cyc v ms s n j := ⟨lt, e, fun i k h1 h2 => inj k h2 i h1⟩
theorem cyc_1 : Cyc (c3, c5) [7, -7] (3, 0) 4 1 := cyc_of (by decide) (by decide +kernel) (by decide +kernel)
theorem cyc_2 : Cyc (c3, c5) [7] (0, 0) 3 0 := cyc_of (by decide) (by decide +kernel) (by decide +kernel)
theorem cyc_3 : Cyc (c103, c10) [7, -7] (0, 0) 2 1 := cyc_of (by decide) (by decide +kernel) (by decide +kernel)
theorem cyc_4 : Cyc (c103, c10) [] (0, 0) 1 0 := cyc_of (by decide) (by decide +kernel) (by decide +kernel)
/-- what round_cycle tells -/
theorem Cyc.told {v : Dv} {ms : List Int} {s : Sv} {n j : Nat} (c : Cyc v ms s n j) {a b r : Int} (h : (j : Int) = a ∧ (n : Int) - (j : Int) = b ∧ (rp v ms s n).1 - (rp v ms s j).1 = r) {d : D} (hd : ∃ n j, Cyc v ms s n j ∧ d = .tuple [.int (j : Int), .int ((n : Int) - (j : Int)), .int ((rp v ms s n).1 - (rp v ms s j).1)]) : d = .tuple [.int a, .int b, .int r] := by
  obtain ⟨n', j', c', rfl⟩ := hd
  obtain ⟨rfl, rfl⟩ := c.uniq c'
  obtain ⟨rfl, rfl, rfl⟩ := h
  rfl
end PD

/-! PD31: ranges with two ends, zip in a for, index, sorted; bars in their order (mathematics) -/
namespace PD
open PySem PySem.Spec PyProof.Rows L2 Evl
section
variable {c : Cn} {K : PySem.W.Frag} {ds : DS} {pl : List D} {Φ : W → List D → Prop} {te tl tb : TE} {tr : TA} {tt : TT} {σ : L2.St} {E : EE} {t : TS}
theorem we_lcR2 {j : Nat} (J : Nat → List D → List D → Prop) (lo hi : Int) (hj : ∀ (xs : List D), ds[j]? ≠ some (some (W.o xs))) (h : WA c tr ds pl fun ys p1 => ys = [.int lo, .int hi] ∧ (-(2 ^ 62) ≤ lo ∧ lo < 2 ^ 62 ∧ -(2 ^ 62) ≤ hi ∧ hi < 2 ^ 62) ∧ J 0 [] p1)
    (user : ∀ (i : Nat) acc pl', i < (hi - lo).toNat → J i acc pl' → ∀ pin, WT { c with pin := pin } tt ((wipeD ds [j]).set j (some (.d (.int (lo + i))))) pl' fun b p2 => if b = true then WE { c with pin := pin } te ((wipeD ds [j]).set j (some (.d (.int (lo + i))))) p2
      (isD fun y p3 => acc.length < sizeLine ∧ J (i + 1) (acc ++ [y]) p3) else J (i + 1) acc p2)
    (hq : ∀ acc pl', J (hi - lo).toNat acc pl' → Φ (.d (.list acc)) pl') : WE c (tLc (iRng2 tr) (gName j) tt te [j]) ds pl Φ := fun G σ H h0 Q q => h G σ H h0 _ fun vs G1 H1 xs p1 h1 e1 f1 ⟨e, b1, g1⟩ => by
  subst e
  cases f1 with
  | cons r1 b =>
    cases b with
    | cons r2 b =>
      cases b
      cases r1
      cases r2
      refine ⟨lo, hi, rfl, b1, fun Dl hD => ?_⟩
      have f := df_new h1 hD
      refine lc_range (lo := lo) (n := (hi - lo).toNat) (PvC c σ ds G1 Dl J) (pv_start J h1 hD g1) ?_ ?_
      · intro i H' hi p
        exact ⟨wipe_set σ j _, lc_turnD J f hj p (fun G' e => R.int _) fun acc pl' hJ pin => user i acc pl' hi hJ pin⟩
      · intro H' p
        exact pv_end f p hq fun v G' H' w pl' h2 e2 f2 g2 => q v G' H' w pl' h2 (e1.trans e2) f2 g2
/-- for a, b in zip(xs, ys) -/
theorem ws_forZ {j1 j2 : Nat} (I : Nat → DS → List D → Prop) (xs ys : List D) (hl : ys.length ≤ xs.length) (h : WA c tr ds pl fun zs p1 => zs = [.list xs, .list ys] ∧ I 0 ds p1)
    (hs : ∀ (i : Nat) x y ds' pl', xs[i]? = some x → ys[i]? = some y → I i ds' pl' → WS c t ((ds'.set j1 (some (.d x))).set j2 (some (.d y))) pl' { nx := I (i + 1), ct := I (i + 1), bk := E.nx, rt := E.rt }) (hd : ∀ ds' pl', I ys.length ds' pl' → E.nx ds' pl') :
    WS c (tFor (iZip K tr) (gTup K 2 (gCons (gName j1) (gCons (gName j2) gNil))) t) ds pl E := fun G σ H h0 D' f => h G σ H h0 _ fun vs G1 H1 zs p1 h1 e1 f1 ⟨ez, g1⟩ => by
  subst ez
  obtain ⟨v, u, rfl, r1, r2⟩ := ra2 f1
  cases r1 with
  | @lst a us1 _ a1 b1 =>
  cases r2 with
  | @lst b us2 _ a2 b2 =>
  refine ⟨a, b, us1, us2, rfl, SqL.of (h1.sub _ _ a1), SqL.of (h1.sub _ _ a2), fun i m σ' H' => m = us2.length - i ∧ i ≤ us2.length ∧ ∃ G' ds' pl', HS c G' σ' H' ds' pl' ∧ Ex G1 G' ∧ I i ds' pl', ⟨us2.length, by simp, Nat.zero_le _, G1, ds, p1, h1, Ex.refl _, g1⟩, ?_⟩
  rintro i m σ' H' ⟨rfl, hi, G', ds', pl', h2, e2, g2⟩
  have sq1 : SqL K H' a us1 := SqL.of (h2.sub _ _ (e2 _ _ a1))
  have sq2 : SqL K H' b us2 := SqL.of (h2.sub _ _ (e2 _ _ a2))
  by_cases hlt : i < us2.length
  · have hlt1 : i < us1.length := by rw [b1.len]; rw [b2.len] at hlt; omega
    refine .inr ⟨⟨us1, us2, us1[i], us2[i], sq1, sq2, by simp [hlt1], by simp [hlt]⟩, fun σ3 H3 => ∃ G3 ds3 pl3, HS c G3 σ3 H3 ds3 pl3 ∧ Ex G1 G3 ∧ I (i + 1) ds3 pl3, fun σ3 H3 q => ⟨us2.length - (i + 1), by omega, rfl, hlt, q⟩, ?_⟩
    rintro x H3 ⟨T, x1, x2, rfl, hT, rfl, y1, y2⟩
    obtain ⟨d1, hd1, hr1⟩ := b1.get' (y1 us1 sq1)
    obtain ⟨d2, hd2, hr2⟩ := b2.get' (y2 us2 sq2)
    have n := h2.none_of hT
    have e3 : Ex G' (upd G' T (.tup [x1, x2])) := Ex.new n.1
    refine ⟨T, _, rfl, SqT.of upd_same, rfl, _, _, rfl, _, _, rfl, rfl, ?_⟩
    have hN := ((h2.newD (o := .tup [x1, x2]) hT).set (i := j1) (w := .d d1) (R.up hr1 (e2.trans e3)) fun xs z => by cases z).set (i := j2) (w := .d d2) (R.up hr2 (e2.trans e3)) fun xs z => by cases z
    refine hs i d1 d2 ds' pl' hd1 hd2 g2 _ _ _ hN _ ⟨?_, ?_, ?_, ?_⟩
    · exact fun G4 σ4 H4 ds4 pl4 h4 e4 g4 => ⟨G4, ds4, pl4, h4, (e2.trans e3).trans e4, g4⟩
    · exact fun v G4 σ4 H4 ds4 w4 pl4 h4 e4 q4 g4 => f.rt v G4 σ4 H4 ds4 w4 pl4 h4 (e1.trans ((e2.trans e3).trans e4)) q4 g4
    · exact fun G4 σ4 H4 ds4 pl4 h4 e4 g4 => f.nx G4 σ4 H4 ds4 pl4 h4 (e1.trans ((e2.trans e3).trans e4)) g4
    · exact fun G4 σ4 H4 ds4 pl4 h4 e4 g4 => ⟨G4, ds4, pl4, h4, (e2.trans e3).trans e4, g4⟩
  · have ei : i = us2.length := by omega
    subst ei
    rw [b2.len] at g2
    exact .inl ⟨⟨us1, us2, sq1, sq2, .inr (Nat.le_refl _)⟩, f.nx G' σ' H' ds' pl' h2 (e1.trans e2) (hd _ _ g2)⟩
/-- e.index(x), e data -/
theorem we_indexE (h : WE c tl ds pl (isD fun d p1 => ∃ xs, d = .list xs ∧ SeqAt.shaped (.list xs) = true ∧ WE c te ds p1 (isD fun x p2 => SeqAt.shaped x = true ∧ ∃ (j : Nat) (z : D), xs[j]? = some z ∧ PyData.eqv z x = true ∧ (∀ (m : Nat) (z' : D), m < j → xs[m]? = some z' → PyData.eqv z' x = false) ∧ Φ (.d (.int (j : Int))) p2))) :
    WE c (tBM K "list" (rIndexD K) tl (tCons te tNil)) ds pl Φ := fun G σ H hs Q q => by
  refine h G σ H hs _ fun v G0 H0 w0 p0 h0 e0 f0 g0 => ?_
  match w0, f0, g0 with
  | .d d, f0, ⟨xs, ed, s1, g0⟩ =>
    subst ed
    have f0' : R G0 v (.list xs) := f0
    obtain ⟨p, us, rfl, b1, b2⟩ := RT.list (.inl f0') h0.sub
    refine ⟨.inl ⟨rfl, _, SqL.of b1⟩, ?_⟩
    refine g0 G0 σ H0 h0 _ fun u G1 H1 w p1 h1 e3 f1 g1 => ?_
    match w, f1, g1 with
    | .d x, f1, ⟨s2, j, z, z1, z2, z3, g2⟩ =>
      exact ⟨p, u, x, xs, j, z, rfl, rfl, R.dp _ _ (R.up f0' (e3.trans h1.sub)), R.dp _ _ (R.up f1 h1.sub), s1, s2, z1, z2, z3, q _ G1 H1 (.d _) p1 h1 (e0.trans e3) (R.int _) g2⟩
/-- sorted(ints) -/
theorem cb_sortedI {ns : List Int} (h : ∀ ns' : List Int, ns'.Perm ns → ns'.Pairwise (· ≤ ·) → Φ (.d (.list (ns'.map PyData.int))) pl) : CbS c (rSortedI K) ds [.list (ns.map PyData.int)] pl Φ := fun G σ H vs hs f Q q => by
  obtain ⟨v, rfl, a⟩ := ra1 f
  cases a with
  | lst a b =>
    have eb := b.ints
    subst eb
    refine ⟨_, ns, rfl, SqL.of (hs.sub _ _ a), fun ns' p pm ps hp => ?_⟩
    have n := hs.none_of hp
    exact q _ _ _ (.d _) pl (hs.newD hp) (Ex.new n.1) (show R _ (.ref p) (.list (ns'.map PyData.int)) from .lst upd_same (RA.of_ints _)) (h ns' pm ps)
end
theorem sorted_eq : ∀ {a b : List Int}, a.Perm b → a.Pairwise (· ≤ ·) → b.Pairwise (· ≤ ·) → a = b
  | [], b, p, _, _ => (List.Perm.nil_eq p)
  | x :: a, [], p, _, _ => absurd p.length_eq (by simp)
  | x :: a, y :: b, p, ha, hb => by
    obtain ⟨a1, a2⟩ := List.pairwise_cons.mp ha
    obtain ⟨b1, b2⟩ := List.pairwise_cons.mp hb
    have h1 : x ≤ y := by
      rcases List.mem_cons.mp (p.mem_iff.mpr List.mem_cons_self) with e | e
      · omega
      · exact a1 y e
    have h2 : y ≤ x := by
      rcases List.mem_cons.mp (p.mem_iff.mp List.mem_cons_self) with e | e
      · omega
      · exact b1 x e
    have e : x = y := by omega
    subst e
    rw [sorted_eq (List.Perm.cons_inv p) a2 b2]
theorem slk_lt {c : Comb} (ok : c.Ok) (n : Int) : slk c n < c.p := by
  obtain ⟨a1, a2, a3⟩ := flo_spec ok n
  by_cases h : flo c n + c.p ≤ n
  · have h2 := a3 (flo c n + c.p) (by have := ok.p1; omega) h
    have e : caught c (flo c n + c.p) = caught c (flo c n) := by unfold caught; rw [Int.add_emod_right]
    rw [e, a2] at h2
    cases h2
  · unfold slk; omega
theorem mv_mono {v : Dv} (ok : v.Ok) {s t : Sv} (h1 : s.1 ≤ t.1) (h2 : s.2 = t.2) (m : Int) : (mv v s m).1 ≤ (mv v t m).1 := by
  by_cases z : 0 < m
  · rw [mv_up z, mv_up z]
    have := flo_mono ok.2 (n := s.1 - s.2) (m := t.1 - t.2) (by omega)
    show s.2 + m + max (s.1 - s.2 - m) (flo v.2 (s.1 - s.2)) ≤ t.2 + m + max (t.1 - t.2 - m) (flo v.2 (t.1 - t.2))
    omega
  · rw [mv_down z, mv_down z]
    have := flo_mono ok.1 h1
    show max (s.1 + m) (flo v.1 s.1) ≤ max (t.1 + m) (flo v.1 t.1)
    omega
theorem mvs_mono {v : Dv} (ok : v.Ok) : ∀ (ms : List Int) {s t : Sv}, s.1 ≤ t.1 → s.2 = t.2 → (mvs v s ms).1 ≤ (mvs v t ms).1
  | [], s, t, h, _ => h
  | m :: r, s, t, h, h2 => mvs_mono ok r (mv_mono ok h h2 m) (by rw [mv_hand, mv_hand, h2])
theorem rp_mono {v : Dv} (ok : v.Ok) (ms : List Int) {s t : Sv} (h : s.1 ≤ t.1) (h2 : s.2 = t.2) : ∀ k : Nat, (rp v ms s k).1 ≤ (rp v ms t k).1
  | 0 => h
  | k + 1 => mvs_mono ok ms (rp_mono ok ms h h2 k) (by rw [rp_hand, rp_hand, h2])
/-- L is a common pitch -/
structure Com (v : Dv) (L : Int) : Prop where
  pos : 0 < L
  d1 : L % v.1.p = 0
  d2 : L % v.2.p = 0
  le : L ≤ 576
theorem Com.plc {v : Dv} {L : Int} (c : Com v L) (b palm k : Int) : PD.plc v (b, palm) = PD.plc v (b + L * k, palm) := by
  obtain ⟨x, hx⟩ : ∃ x, L = v.1.p * x := ⟨L / v.1.p, by have := Int.mul_ediv_add_emod L v.1.p; rw [c.d1] at this; omega⟩
  obtain ⟨y, hy⟩ : ∃ y, L = v.2.p * y := ⟨L / v.2.p, by have := Int.mul_ediv_add_emod L v.2.p; rw [c.d2] at this; omega⟩
  unfold PD.plc
  show (b % v.1.p, (b - palm) % v.2.p) = ((b + L * k) % v.1.p, (b + L * k - palm) % v.2.p)
  have e1 : (b + L * k) % v.1.p = b % v.1.p := by rw [hx, Int.mul_assoc, Int.add_mul_emod_self_left]
  have e2 : (b + L * k - palm) % v.2.p = (b - palm) % v.2.p := by
    rw [show b + L * k - palm = (b - palm) + L * k by omega, hy, Int.mul_assoc, Int.add_mul_emod_self_left]
  rw [e1, e2]
theorem plc_held {v : Dv} {s t : Sv} (h : PD.plc v s = PD.plc v t) : held v s = held v t := by
  unfold held caught
  have e1 : s.1 % v.1.p = t.1 % v.1.p := congrArg Prod.fst h
  have e2 : (s.1 - s.2) % v.2.p = (t.1 - t.2) % v.2.p := congrArg Prod.snd h
  rw [e1, e2]
/-- heights behind something: in order, and by common pitches -/
structure Row (L : Int) (f : Int → Int) : Prop where
  mono : ∀ a b, a ≤ b → f a ≤ f b
  per : ∀ a k, f (a + L * k) = f a + L * k
theorem Row.bounds {L : Int} {f : Int → Int} (r : Row L f) (hL : 0 < L) {a b : Int} (h : a ≤ b) : 0 ≤ f b - f a ∧ (b - a = 0 → f b - f a = 0) ∧ (b - a) / L * L ≤ f b - f a ∧ f b - f a ≤ 0 - (0 - (b - a)) / L * L := by
  have h0 := r.mono a b h
  refine ⟨by omega, fun e => ?_, ?_, ?_⟩
  · have : b = a := by omega
    subst this; omega
  · have h1 := Int.mul_ediv_add_emod (b - a) L
    have h2 := Int.emod_nonneg (b - a) (show L ≠ 0 by omega)
    have h3 := r.mono (a + L * ((b - a) / L)) b (by omega)
    rw [r.per] at h3
    rw [Int.mul_comm]
    omega
  · have h1 := Int.mul_ediv_add_emod (0 - (b - a)) L
    have h2 := Int.emod_nonneg (0 - (b - a)) (show L ≠ 0 by omega)
    have h3 := r.mono b (a + L * (-((0 - (b - a)) / L))) (by rw [Int.mul_neg]; omega)
    rw [r.per, Int.mul_neg] at h3
    rw [Int.mul_comm]
    omega
theorem row_mvs {v : Dv} (ok : v.Ok) {L : Int} (c : Com v L) (palm : Int) (ms : List Int) : Row L fun b => (mvs v (b, palm) ms).1 :=
  ⟨fun a b h => mvs_mono ok ms (s := (a, palm)) (t := (b, palm)) h rfl, fun a k => by
    have e := mvs_shift ok ms (c.plc a palm k)
    have e1 := congrArg Prod.fst e
    show (mvs v (a + L * k, palm) ms).1 = _
    rw [e1]
    show _ + (a + L * k - a) = _
    omega⟩
theorem row_rp {v : Dv} (ok : v.Ok) {L : Int} (c : Com v L) (palm : Int) (ms : List Int) (t : Nat) : Row L fun b => (rp v ms (b, palm) t).1 :=
  ⟨fun a b h => rp_mono ok ms (s := (a, palm)) (t := (b, palm)) h rfl t, fun a k => by
    have e := rp_shift ok ms (c.plc a palm k) t
    have e1 := congrArg Prod.fst e
    show (rp v ms (a + L * k, palm) t).1 = _
    rw [e1]
    show _ + (a + L * k - a) = _
    omega⟩
theorem floor_mv {v : Dv} (ok : v.Ok) (s : Sv) (m : Int) : flo v.1 s.1 ≤ flo v.1 (mv v s m).1 := by
  obtain ⟨a1, a2, a3⟩ := flo_spec ok.1 s.1
  have h : flo v.1 s.1 ≤ (mv v s m).1 := by
    by_cases z : 0 < m
    · have := (up_bounds ok s z).1; omega
    · exact (down_bounds ok s z).2.2
  obtain ⟨b1, b2, b3⟩ := flo_spec ok.1 (mv v s m).1
  by_cases y : flo v.1 s.1 ≤ flo v.1 (mv v s m).1
  · exact y
  · have := b3 (flo v.1 s.1) (by omega) h
    rw [a2] at this; cases this
theorem floor_trail {v : Dv} (ok : v.Ok) : ∀ (ms : List Int) (s : Sv), ∀ x ∈ trail v s ms, flo v.1 s.1 ≤ x.1
  | [], s => fun x hx => nomatch hx
  | m :: r, s => fun x hx => by
    have h1 := floor_mv ok s m
    rcases List.mem_cons.mp hx with rfl | hx
    · have := flo_le ok.1 (mv v s m).1; omega
    · have := floor_trail ok r (mv v s m) x hx; omega
theorem eqv_int (a b : Int) : PyData.eqv (.int a) (.int b) = (a == b) := rfl
/-- the first place of a number in a list -/
theorem first_at : ∀ {l : List Int} {x : Int}, x ∈ l → ∃ j : Nat, l[j]? = some x ∧ ∀ (m : Nat) (z : Int), m < j → l[m]? = some z → z ≠ x
  | y :: r, x, h => by
    by_cases e : y = x
    · exact ⟨0, by rw [e]; rfl, fun m z hm => absurd hm (Nat.not_lt_zero _)⟩
    · rcases List.mem_cons.mp h with rfl | h
      · exact absurd rfl e
      · obtain ⟨j, h1, h2⟩ := first_at h
        refine ⟨j + 1, by rw [List.getElem?_cons_succ]; exact h1, fun m z hm hz => ?_⟩
        cases m with
        | zero => cases hz; exact e
        | succ m => exact h2 m z (by omega) (by rw [List.getElem?_cons_succ] at hz; exact hz)
theorem _root_.Int.le_of_emod_eq_zero' {L p : Int} (h0 : 0 < L) (hp : 0 < p) (h : L % p = 0) : p ≤ L := Int.le_of_dvd h0 (Int.dvd_of_emod_eq_zero h)
end PD

/-! PD32: is None, min and max of a list; first times (mathematics) -/
namespace PD
open PySem PySem.Spec PyProof.Rows L2 Evl
def nonB : D → Bool
  | .none => true
  | _ => false
section
variable {c : Cn} {K : PySem.W.Frag} {ds : DS} {pl : List D} {Φ : W → List D → Prop}
theorem os_isN {d : D} {p2 : List D} (h : Φ (.d (.bool (nonB d))) p2) : OpS c (fun x y H Q => y = .non ∧ Q (.bl (decide (x = .non))) H) ds d .none p2 Φ := fun G σ H v u hs hv hu Q q => by
  have e : u = .non := by
    rcases hu with hu | ⟨p, vs, xs, rfl, e, _⟩
    · cases hu; rfl
    · cases e
  have e2 : decide (v = .non) = nonB d := by
    rcases hv with hv | ⟨p, vs, xs, rfl, rfl, _⟩
    · cases hv <;> rfl
    · rfl
  refine ⟨e, ?_⟩
  rw [e2]
  exact q _ G H (.d _) p2 hs (Ex.refl _) (R.bl _) h
theorem cb_minI {ns : List Int} (h0 : ns ≠ []) (h : ∀ m ∈ ns, (∀ y ∈ ns, m ≤ y) → Φ (.d (.int m)) pl) : CbS c (rMin K) ds [.list (ns.map PyData.int)] pl Φ := fun G σ H vs hs f Q q => by
  obtain ⟨v, rfl, a⟩ := ra1 f
  cases a with
  | lst a b =>
    have eb := b.ints
    subst eb
    exact ⟨_, ns, rfl, SqL.of (hs.sub _ _ a), List.length_pos_iff.mpr h0, fun m m1 m2 => q _ G H (.d _) pl hs (Ex.refl _) (R.int _) (h m m1 m2)⟩
theorem cb_maxI {ns : List Int} (h0 : ns ≠ []) (h : ∀ m ∈ ns, (∀ y ∈ ns, y ≤ m) → Φ (.d (.int m)) pl) : CbS c (rMax K) ds [.list (ns.map PyData.int)] pl Φ := fun G σ H vs hs f Q q => by
  obtain ⟨v, rfl, a⟩ := ra1 f
  cases a with
  | lst a b =>
    have eb := b.ints
    subst eb
    exact ⟨_, ns, rfl, SqL.of (hs.sub _ _ a), List.length_pos_iff.mpr h0, fun m m1 m2 => q _ G H (.d _) pl hs (Ex.refl _) (R.int _) (h m m1 m2)⟩
end
/-- xs[j:-1] -/
theorem cut_mid (xs : List D) (j : Nat) (h : j < xs.length) : cutD xs (some (j : Int)) (some (-1)) = (xs.drop j).take (xs.length - 1 - j) := by
  unfold cutD
  rw [HT.sIx_nat, Nat.min_eq_left (by omega)]
  have e : HT.sIx xs.length xs.length (some (-1)) = xs.length - 1 := by
    unfold HT.sIx
    dsimp only
    rw [if_pos (by decide)]
    omega
  rw [e]
section
variable (v : Dv) (ms : List Int) (s : Sv)
theorem hts_cut {n j : Nat} (h : j < n) : cutD ((hts v ms s (n + 1)).map PyData.int) (some (j : Int)) (some (-1)) = (List.range (n - j)).map fun i => PyData.int (rp v ms s (j + i)).1 := by
  rw [cut_mid _ _ (by rw [List.length_map, hts_len]; omega)]
  apply List.ext_getElem?
  intro i
  rw [List.length_map, hts_len]
  by_cases hi : i < n - j
  · rw [List.getElem?_take_of_lt (by omega), List.getElem?_drop, List.getElem?_map, List.getElem?_map, List.getElem?_range hi]
    unfold hts
    rw [List.getElem?_map, List.getElem?_range (by omega)]
    rfl
  · rw [List.getElem?_eq_none (by rw [List.length_take, List.length_drop, List.length_map, hts_len]; omega), List.getElem?_eq_none (by rw [List.length_map, List.length_range]; omega)]
/-- the first time at a height, none if it never is -/
def Fst (h : Int) : Option Nat → Prop
  | some k => h ≤ (rp v ms s k).1 ∧ ∀ i, i < k → (rp v ms s i).1 < h
  | none => ∀ i, (rp v ms s i).1 < h
def oD : Option Nat → D
  | some k => .int (k : Int)
  | none => .none
variable {v ms s}
theorem Fst.uniq {h : Int} : ∀ {a b : Option Nat}, Fst v ms s h a → Fst v ms s h b → a = b
  | none, none, _, _ => rfl
  | some k, none, x, y => absurd (y k) (Int.not_lt.mpr x.1)
  | none, some k, x, y => absurd (x k) (Int.not_lt.mpr y.1)
  | some k, some l, x, y => by
    rcases Nat.lt_trichotomy k l with z | z | z
    · exact absurd (y.2 k z) (Int.not_lt.mpr x.1)
    · rw [z]
    · exact absurd (x.2 l z) (Int.not_lt.mpr y.1)
theorem floor_mvs (ok : v.Ok) : ∀ (ms : List Int) (s : Sv), flo v.1 s.1 ≤ flo v.1 (mvs v s ms).1
  | [], s => Int.le_refl _
  | m :: r, s => Int.le_trans (floor_mv ok s m) (floor_mvs ok r (mv v s m))
theorem floor_fl (ok : v.Ok) (ms : List Int) (s : Sv) : ∀ k : Nat, flo v.1 s.1 ≤ flo v.1 (rp v ms s k).1
  | 0 => Int.le_refl _
  | k + 1 => Int.le_trans (floor_fl ok ms s k) (floor_mvs ok ms (rp v ms s k))
theorem floor_rp (ok : v.Ok) (ms : List Int) (s : Sv) : ∀ k : Nat, flo v.1 s.1 ≤ (rp v ms s k).1 := fun k => by
  have a := floor_fl ok ms s k
  have b := flo_le ok.1 (rp v ms s k).1
  omega
theorem Cyc.rise {n j : Nat} (ok : v.Ok) (cy : Cyc v ms s n j) : (rp v ms s j).1 ≤ (rp v ms s n).1 := by
  apply Int.not_lt.mp
  intro z
  have q := cy.many ok 0 ((rp v ms s j).1 - flo v.1 s.1 + 1).toNat
  have f := floor_rp ok ms s (j + 0 + (n - j) * ((rp v ms s j).1 - flo v.1 s.1 + 1).toNat)
  have f2 := floor_rp ok ms s j
  rw [q] at f
  have e : (((rp v ms s j).1 - flo v.1 s.1 + 1).toNat : Int) = (rp v ms s j).1 - flo v.1 s.1 + 1 := Int.toNat_of_nonneg (by omega)
  rw [e] at f
  have g : ((rp v ms s j).1 - flo v.1 s.1 + 1) * ((rp v ms s n).1 - (rp v ms s j).1) ≤ ((rp v ms s j).1 - flo v.1 s.1 + 1) * (-1) := Int.mul_le_mul_of_nonneg_left (by omega) (by omega)
  simp only [Nat.add_zero] at f
  omega
/-- all heights that come, from those of one cycle -/
theorem Cyc.part {n j : Nat} (ok : v.Ok) (cy : Cyc v ms s n j) (t : Nat) (h : j ≤ t) : ∃ i q : Nat, i < n - j ∧ t = j + i + (n - j) * q ∧ (rp v ms s t).1 = (rp v ms s (j + i)).1 + (q : Int) * ((rp v ms s n).1 - (rp v ms s j).1) := by
  have lt := cy.lt
  refine ⟨(t - j) % (n - j), (t - j) / (n - j), Nat.mod_lt _ (by omega), ?_, (cy.far ok h).symm⟩
  have := Nat.mod_add_div (t - j) (n - j)
  omega
theorem Fst.never {n j : Nat} (ok : v.Ok) (cy : Cyc v ms s n j) {h : Int} (lo : ∀ i, i < n + 1 → (rp v ms s i).1 < h) (r0 : (rp v ms s n).1 - (rp v ms s j).1 = 0) : Fst v ms s h none := fun t => by
  have lt := cy.lt
  by_cases hj : t < n + 1
  · exact lo t hj
  · obtain ⟨i, q, hi, e, e2⟩ := cy.part ok t (by omega)
    rw [e2, r0, Int.mul_zero, Int.add_zero]
    exact lo _ (by omega)
/-- how many cycles -/
def need (x h r : Int) : Int := -((x - h) / r)
theorem need_pos {x h r : Int} (hr : 0 < r) (hx : x < h) : 0 < need x h r := by
  unfold need
  have := Int.ediv_lt_of_lt_mul hr (show x - h < 0 * r by omega)
  omega
theorem need_le {x h r : Int} (hr : 0 < r) (q : Int) : need x h r ≤ q ↔ h ≤ x + q * r := by
  unfold need
  have e : (-q ≤ (x - h) / r) ↔ -q * r ≤ x - h := Int.le_ediv_iff_mul_le hr
  have e2 : -q * r = -(q * r) := Int.neg_mul _ _
  constructor
  · intro z
    have := e.mp (by omega)
    omega
  · intro z
    have := e.mpr (by omega)
    omega
theorem Fst.least {n j : Nat} (ok : v.Ok) (cy : Cyc v ms s n j) {h : Int} (lo : ∀ i, i < n + 1 → (rp v ms s i).1 < h) (r0 : 0 < (rp v ms s n).1 - (rp v ms s j).1)
    {m : Int} (m1 : m ∈ (List.range (n - j)).map fun (i : Nat) => (j : Int) + (i : Int) + ((n : Int) - (j : Int)) * need (rp v ms s (j + i)).1 h ((rp v ms s n).1 - (rp v ms s j).1))
    (m2 : ∀ y ∈ (List.range (n - j)).map fun (i : Nat) => (j : Int) + (i : Int) + ((n : Int) - (j : Int)) * need (rp v ms s (j + i)).1 h ((rp v ms s n).1 - (rp v ms s j).1), m ≤ y) : ∃ k : Nat, m = (k : Int) ∧ Fst v ms s h (some k) := by
  have lt := cy.lt
  obtain ⟨i, hi, rfl⟩ := List.mem_map.mp m1
  have hi' := List.mem_range.mp hi
  generalize hr : (rp v ms s n).1 - (rp v ms s j).1 = r at *
  have np := need_pos r0 (lo (j + i) (by omega))
  obtain ⟨q, hq⟩ : ∃ q : Nat, need (rp v ms s (j + i)).1 h r = (q : Int) := ⟨(need (rp v ms s (j + i)).1 h r).toNat, by omega⟩
  have eL : (n : Int) - (j : Int) = ((n - j : Nat) : Int) := by omega
  have mm := cy.many ok i q
  rw [hr] at mm
  refine ⟨j + i + (n - j) * q, ?_, ?_, fun t ht => ?_⟩
  · rw [hq, eL, Int.natCast_add, Int.natCast_add, Int.natCast_mul]
  · rw [mm]
    exact (need_le r0 _).mp (by omega)
  · apply Int.not_le.mp
    intro z
    by_cases hn : t < n + 1
    · have := lo t hn
      omega
    · obtain ⟨i2, q2, hi2, e, e2⟩ := cy.part ok t (by omega)
      rw [e2, hr] at z
      have nl := (need_le r0 _).mpr z
      have := m2 _ (List.mem_map.mpr ⟨i2, List.mem_range.mpr hi2, rfl⟩)
      rw [hq, eL] at this
      have g : ((n - j : Nat) : Int) * need (rp v ms s (j + i2)).1 h r ≤ ((n - j : Nat) : Int) * (q2 : Int) := Int.mul_le_mul_of_nonneg_left nl (by omega)
      have c1 : (t : Int) = (j : Int) + (i2 : Int) + ((n - j : Nat) : Int) * (q2 : Int) := by rw [e, Int.natCast_add, Int.natCast_add, Int.natCast_mul]
      have c2 : (t : Int) < (j : Int) + (i : Int) + ((n - j : Nat) : Int) * (q : Int) := by
        have : ((t : Nat) : Int) < ((j + i + (n - j) * q : Nat) : Int) := by omega
        rwa [Int.natCast_add, Int.natCast_add, Int.natCast_mul] at this
      omega
/-- with a rise every height is reached -/
theorem Cyc.grow {n j : Nat} (ok : v.Ok) (cy : Cyc v ms s n j) (r0 : 0 < (rp v ms s n).1 - (rp v ms s j).1) (h : Int) : ∃ t : Nat, h ≤ (rp v ms s t).1 := by
  refine ⟨j + 0 + (n - j) * (need (rp v ms s (j + 0)).1 h ((rp v ms s n).1 - (rp v ms s j).1)).toNat, ?_⟩
  rw [cy.many ok]
  exact (need_le r0 _).mp (by omega)
end
end PD

/-! PD33: a < b <= c; cycles by the pitches, bounds of first times, first times told -/
namespace PD
open PySem PySem.Spec PyProof.Rows L2 Evl
theorem we_chainL {c : Cn} {ds : DS} {pl : List D} {Φ : W → List D → Prop} {ta tb tc : TE} {a b c' : Int} (h1 : WE c ta ds pl fun w p => w = .d (.int a) ∧ p = pl) (h2 : WE c tb ds pl fun w p => w = .d (.int b) ∧ p = pl) (h3 : WE c tc ds pl fun w p => w = .d (.int c') ∧ p = pl)
    (h : Φ (.d (.bool (decide (a < b) && decide (b ≤ c')))) pl) : WE c (tChain (rI0 fun i j => .bl (decide (i < j))) (rI0 fun i j => .bl (decide (i ≤ j))) ta tb tc) ds pl Φ := fun G σ H hs Q q => by
  refine h1 G σ H hs _ ?_
  rintro v1 G1 H1 w1 p1 hs1 e1 f1 ⟨rfl, rfl⟩
  cases f1
  refine h2 G1 σ H1 hs1 _ ?_
  rintro v2 G2 H2 w2 p2 hs2 e2 f2 ⟨rfl, rfl⟩
  cases f2
  refine ⟨a, b, rfl, rfl, _, rfl, ?_⟩
  by_cases z : a < b
  · have z' : decide (a < b) = true := decide_eq_true z
    rw [z'] at h
    simp only [z', if_true]
    refine h3 G2 σ H2 hs2 _ ?_
    rintro v3 G3 H3 w3 p3 hs3 e3 f3 ⟨rfl, rfl⟩
    cases f3
    exact ⟨b, c', rfl, rfl, q _ G3 H3 (.d _) _ hs3 (e1.trans (e2.trans e3)) (R.bl _) h⟩
  · have z' : decide (a < b) = false := decide_eq_false z
    rw [z'] at h
    simp only [z']
    exact q _ G2 H2 (.d (.bool false)) _ hs2 (e1.trans e2) (R.bl _) h
theorem Cyc.leP {v : Dv} (ok : v.Ok) {ms : List Int} {s : Sv} {n j : Nat} (c : Cyc v ms s n j) : (n : Int) ≤ v.1.p * v.2.p := by
  have p1 := ok.1.p1
  have q1 := ok.2.p1
  have b : ∀ i, 0 ≤ (plc v (rp v ms s i)).1 ∧ (plc v (rp v ms s i)).1 < v.1.p ∧ 0 ≤ (plc v (rp v ms s i)).2 ∧ (plc v (rp v ms s i)).2 < v.2.p := fun i => by
    have a1 := Int.emod_nonneg (rp v ms s i).1 (show v.1.p ≠ 0 by omega)
    have a2 := Int.emod_lt_of_pos (rp v ms s i).1 (show 0 < v.1.p by omega)
    have a3 := Int.emod_nonneg (lf (rp v ms s i)) (show v.2.p ≠ 0 by omega)
    have a4 := Int.emod_lt_of_pos (lf (rp v ms s i)) (show 0 < v.2.p by omega)
    unfold plc
    omega
  have key : ∀ x y y' z : Int, 0 ≤ y → y < v.2.p → x < z → 0 ≤ y' → x * v.2.p + y < z * v.2.p + y' := fun x y y' z h1 h2 h3 h4 => by
    have : (x + 1) * v.2.p ≤ z * v.2.p := Int.mul_le_mul_of_nonneg_right (by omega) (by omega)
    rw [Int.add_mul, Int.one_mul] at this
    omega
  have pp : 0 ≤ v.1.p * v.2.p := Int.mul_nonneg (by omega) (by omega)
  have h := pigeon (v.1.p * v.2.p).toNat n (fun i => ((plc v (rp v ms s i)).1 * v.2.p + (plc v (rp v ms s i)).2).toNat) (fun i hi => ?_) (fun i k hik hk e => ?_)
  · omega
  · have := b i
    have h0 : 0 ≤ (plc v (rp v ms s i)).1 * v.2.p := Int.mul_nonneg this.1 (by omega)
    have := key (plc v (rp v ms s i)).1 (plc v (rp v ms s i)).2 0 v.1.p (by omega) (by omega) (by omega) (by omega)
    show ((plc v (rp v ms s i)).1 * v.2.p + (plc v (rp v ms s i)).2).toNat < (v.1.p * v.2.p).toNat
    omega
  · have h1 := b i
    have h2 := b k
    have e' : ((plc v (rp v ms s i)).1 * v.2.p + (plc v (rp v ms s i)).2).toNat = ((plc v (rp v ms s k)).1 * v.2.p + (plc v (rp v ms s k)).2).toNat := e
    have n1 : 0 ≤ (plc v (rp v ms s i)).1 * v.2.p := Int.mul_nonneg h1.1 (by omega)
    have n2 : 0 ≤ (plc v (rp v ms s k)).1 * v.2.p := Int.mul_nonneg h2.1 (by omega)
    have ex : (plc v (rp v ms s i)).1 = (plc v (rp v ms s k)).1 := by
      rcases Int.lt_trichotomy (plc v (rp v ms s i)).1 (plc v (rp v ms s k)).1 with z | z | z
      · have := key _ (plc v (rp v ms s i)).2 (plc v (rp v ms s k)).2 _ (by omega) (by omega) z (by omega); omega
      · exact z
      · have := key _ (plc v (rp v ms s k)).2 (plc v (rp v ms s i)).2 _ (by omega) (by omega) z (by omega); omega
    refine c.inj i k hik hk ?_
    ext
    · exact ex
    · rw [ex] at e' n1; omega
section
variable {v : Dv} {ms : List Int} {s : Sv}
theorem Fst.bound {n j k : Nat} (ok : v.Ok) (cy : Cyc v ms s n j) {h : Int} (f : Fst v ms s h (some k)) {B : Nat} (b1 : h.natAbs ≤ B) (b2 : (rp v ms s j).1.natAbs ≤ B) : k ≤ 576 + 576 * (2 * B) := by
  have lt := cy.lt
  have n5 := cy.le ok
  have r := cy.rise ok
  by_cases hk : k ≤ n
  · omega
  · have r0 : 0 < (rp v ms s n).1 - (rp v ms s j).1 := by
      apply Int.not_le.mp
      intro z
      have ez : (rp v ms s n).1 - (rp v ms s j).1 = 0 := by omega
      obtain ⟨i, q, hi, e, e2⟩ := cy.part ok k (by omega)
      rw [ez, Int.mul_zero, Int.add_zero] at e2
      have := f.2 (j + i) (by omega)
      have := f.1
      omega
    have hj := f.2 j (by omega)
    have m := cy.many ok 0 (h - (rp v ms s j).1).toNat
    have em : ((h - (rp v ms s j).1).toNat : Int) = h - (rp v ms s j).1 := by omega
    have g : (h - (rp v ms s j).1) * 1 ≤ (h - (rp v ms s j).1) * ((rp v ms s n).1 - (rp v ms s j).1) := Int.mul_le_mul_of_nonneg_left (by omega) (by omega)
    rw [em] at m
    have t1 : k ≤ j + 0 + (n - j) * (h - (rp v ms s j).1).toNat := by
      apply Nat.not_lt.mp
      intro z
      have := f.2 _ z
      simp only [Nat.add_zero] at m this
      omega
    have t2 : (n - j) * (h - (rp v ms s j).1).toNat ≤ 576 * (2 * B) := Nat.mul_le_mul (by omega) (by omega)
    omega
end
theorem cyc_5 : Cyc (c3, c5) [10, -10] (0, 0) 2 0 := cyc_of (by decide) (by decide +kernel) (by decide +kernel)
theorem fst_1 : Fst (c3, c5) [10, -10] (0, 0) (-5) (some 0) := ⟨by decide +kernel, by decide +kernel⟩
theorem fst_2 : Fst (c3, c5) [10, -10] (0, 0) 9 (some 1) := ⟨by decide +kernel, by decide +kernel⟩
theorem fst_3 : Fst (c3, c5) [10, -10] (0, 0) 10 (some 2) := ⟨by decide +kernel, by decide +kernel⟩
theorem fst_4 : Fst (c3, c5) [10, -10] (0, 0) 100 (some 14) := ⟨by decide +kernel, by decide +kernel⟩
theorem fst_5 : Fst (c103, c10) [7, -7] (0, 0) 3 (some 1) := ⟨by decide +kernel, by decide +kernel⟩
theorem fst_6 : Fst (c103, c10) [7, -7] (0, 0) 4 none := Fst.never ok_wide cyc_3 (by decide +kernel) (by decide +kernel)
theorem nar_even (q : Nat) : (rp (c3, c5) [10, -10] (0, 0) (2 * q)).1 = 15 * (q : Int) := by
  have h := cyc_5.many ok_nar 0 q
  have e : (rp (c3, c5) [10, -10] (0, 0) 2).1 - (rp (c3, c5) [10, -10] (0, 0) 0).1 = 15 ∧ (rp (c3, c5) [10, -10] (0, 0) (0 + 0)).1 = 0 := ⟨by decide +kernel, by decide +kernel⟩
  rw [e.1, e.2] at h
  rw [show 2 * q = 0 + 0 + (2 - 0) * q by omega, h]
  omega
theorem nar_odd (q : Nat) : (rp (c3, c5) [10, -10] (0, 0) (2 * q + 1)).1 = 15 * (q : Int) + 9 := by
  have h := cyc_5.many ok_nar 1 q
  have e : (rp (c3, c5) [10, -10] (0, 0) 2).1 - (rp (c3, c5) [10, -10] (0, 0) 0).1 = 15 ∧ (rp (c3, c5) [10, -10] (0, 0) (0 + 1)).1 = 9 := ⟨by decide +kernel, by decide +kernel⟩
  rw [e.1, e.2] at h
  rw [show 2 * q + 1 = 0 + 1 + (2 - 0) * q by omega, h]
  omega
theorem fst_7 : Fst (c3, c5) [10, -10] (0, 0) (10 ^ 30) (some 133333333333333333333333333334) := by
  refine ⟨?_, fun i hi => ?_⟩
  · rw [show (133333333333333333333333333334 : Nat) = 2 * 66666666666666666666666666667 by decide, nar_even]
    decide +kernel
  · rcases Nat.mod_two_eq_zero_or_one i with z | z
    · rw [show i = 2 * (i / 2) by omega, nar_even]; omega
    · rw [show i = 2 * (i / 2) + 1 by omega, nar_odd]; omega
end PD

/-! PD34: xs, y = [e], b -/
namespace PD
open PySem PySem.Spec PyProof.Rows L2 Evl
section
variable {c : Cn} {K : PySem.W.Frag} {ds : DS} {pl : List D} {te : TE} {E : EE}
/-- xs, y = [e], b of data in slots, e tells no change -/
theorem ws_par1x {i j m2 : Nat} {x y : D} (h1 : WE c te ds pl fun w p => w = .d x ∧ p = pl) (hm2 : ds[m2]? = some (some (.d y))) (h : E.nx ((ds.set i (some (.o [x]))).set j (some (.d y))) pl) : WS c (tPar i j (tCons (tLst (tCons te tNil)) (tCons (tVar m2) tNil))) ds pl E := fun G σ H hs D' f => by
  refine h1 G σ H hs _ ?_
  rintro v G1 H1 w p1 hs1 e1 f1 ⟨rfl, rfl⟩
  obtain ⟨v2, d1, d2⟩ := hs1.slots m2 _ hm2
  refine ⟨by show 1 ≤ sizeLine; decide, fun p hp => ⟨v2, d1, _, _, rfl, ?_⟩⟩
  exact f.nx G1 _ _ _ _ ((hs1.newO hp (.cons (show R G1 v x from f1) .nil) i).set (w := .d y) d2 fun xs z => by cases z) e1 h
end
end PD

/-! PD35: gcd; the mean rise of moves at a hand (mathematics) -/
namespace PD
open PySem PySem.Spec PyProof.Rows L2 Evl
section
variable {c : Cn} {K : PySem.W.Frag} {ds : DS} {pl : List D} {Φ : W → List D → Prop}
theorem cb_gcd {a b : Int} (h : Φ (.d (.int ((Nat.gcd a.natAbs b.natAbs : Nat) : Int))) pl) : CbS c rGcd ds [.int a, .int b] pl Φ := fun G σ H vs hs f Q q => by
  obtain ⟨v, u, rfl, x, y⟩ := ra2 f
  cases x
  cases y
  exact ⟨a, b, rfl, q _ G H (.d _) pl hs (Ex.refl _) (R.int _) h⟩
end
section
variable {v : Dv} {ms : List Int} {hand : Int}
theorem com_pp (ok : v.Ok) : Com v (v.1.p * v.2.p) := by
  have p1 := ok.1.p1
  have p24 := ok.1.p24
  have q1 := ok.2.p1
  have q24 := ok.2.p24
  have e : 1 * 1 ≤ v.1.p * v.2.p := Int.mul_le_mul p1 q1 (by omega) (by omega)
  have e2 : v.1.p * v.2.p ≤ 24 * 24 := Int.mul_le_mul (by omega) (by omega) (by omega) (by omega)
  exact ⟨by omega, Int.mul_emod_right _ _, Int.mul_emod_left _ _, by omega⟩
theorem mean_le (ok : v.Ok) {a b : Int} (hab : a ≤ b) {n1 j1 n2 j2 : Nat} (c1 : Cyc v ms (a, hand) n1 j1) (c2 : Cyc v ms (b, hand) n2 j2) :
    ((rp v ms (a, hand) n1).1 - (rp v ms (a, hand) j1).1) * ((n2 - j2 : Nat) : Int) = ((rp v ms (b, hand) n2).1 - (rp v ms (b, hand) j2).1) * ((n1 - j1 : Nat) : Int) := by
  have cm := com_pp ok
  have L0 := cm.pos
  generalize hL : v.1.p * v.2.p = L at cm L0
  generalize hr1 : (rp v ms (a, hand) n1).1 - (rp v ms (a, hand) j1).1 = r1
  generalize hr2 : (rp v ms (b, hand) n2).1 - (rp v ms (b, hand) j2).1 = r2
  have diff : ∀ t, 0 ≤ (rp v ms (b, hand) t).1 - (rp v ms (a, hand) t).1 ∧ (rp v ms (b, hand) t).1 - (rp v ms (a, hand) t).1 ≤ L * (b - a) := fun t => by
    have rw1 := row_rp ok cm hand ms t
    have m1 := rw1.mono a b hab
    have e : (b - a) * 1 ≤ (b - a) * L := Int.mul_le_mul_of_nonneg_left (by omega) (by omega)
    have e' : L * (b - a) = (b - a) * L := Int.mul_comm _ _
    have m2 := rw1.mono b (a + L * (b - a)) (by omega)
    have m3 := rw1.per a (b - a)
    have m1' : (rp v ms (a, hand) t).1 ≤ (rp v ms (b, hand) t).1 := m1
    have m2' : (rp v ms (b, hand) t).1 ≤ (rp v ms (a + L * (b - a), hand) t).1 := m2
    have m3' : (rp v ms (a + L * (b - a), hand) t).1 = (rp v ms (a, hand) t).1 + L * (b - a) := m3
    omega
  have at_ : ∀ m : Nat, (rp v ms (b, hand) (j1 + j2 + (n1 - j1) * (n2 - j2) * m)).1 - (rp v ms (a, hand) (j1 + j2 + (n1 - j1) * (n2 - j2) * m)).1 = (rp v ms (b, hand) (j1 + j2)).1 - (rp v ms (a, hand) (j1 + j2)).1 + (m : Int) * (r2 * ((n1 - j1 : Nat) : Int) - r1 * ((n2 - j2 : Nat) : Int)) := fun m => by
    have h1 := c1.many ok j2 ((n2 - j2) * m)
    have h2 := c2.many ok j1 ((n1 - j1) * m)
    rw [hr1, show j1 + j2 + (n1 - j1) * ((n2 - j2) * m) = j1 + j2 + (n1 - j1) * (n2 - j2) * m by rw [Nat.mul_assoc]] at h1
    rw [hr2, show j2 + j1 + (n2 - j2) * ((n1 - j1) * m) = j1 + j2 + (n1 - j1) * (n2 - j2) * m by rw [← Nat.mul_assoc, Nat.mul_comm (n2 - j2), Nat.add_comm j2], show j2 + j1 = j1 + j2 from Nat.add_comm _ _] at h2
    rw [h1, h2, Int.natCast_mul, Int.natCast_mul, Int.mul_sub]
    have x1 : ((n1 - j1 : Nat) : Int) * (m : Int) * r2 = (m : Int) * (r2 * ((n1 - j1 : Nat) : Int)) := by rw [Int.mul_comm _ (m : Int), Int.mul_assoc, Int.mul_comm _ r2]
    have x2 : ((n2 - j2 : Nat) : Int) * (m : Int) * r1 = (m : Int) * (r1 * ((n2 - j2 : Nat) : Int)) := by rw [Int.mul_comm _ (m : Int), Int.mul_assoc, Int.mul_comm _ r1]
    rw [x1, x2]
    omega
  have C0 : 0 ≤ L * (b - a) := Int.mul_nonneg (by omega) (by omega)
  generalize L * (b - a) = C at diff C0
  have d0 := diff (j1 + j2)
  have dm := diff (j1 + j2 + (n1 - j1) * (n2 - j2) * (C + 1).toNat)
  rw [at_ (C + 1).toNat, show (((C + 1).toNat : Nat) : Int) = C + 1 by omega] at dm
  generalize (rp v ms (b, hand) (j1 + j2)).1 - (rp v ms (a, hand) (j1 + j2)).1 = D0 at d0 dm
  rcases Int.lt_trichotomy (r2 * ((n1 - j1 : Nat) : Int) - r1 * ((n2 - j2 : Nat) : Int)) 0 with z | z | z
  · have g : (C + 1) * (r2 * ((n1 - j1 : Nat) : Int) - r1 * ((n2 - j2 : Nat) : Int)) ≤ (C + 1) * (-1) := Int.mul_le_mul_of_nonneg_left (by omega) (by omega)
    omega
  · omega
  · have g : (C + 1) * 1 ≤ (C + 1) * (r2 * ((n1 - j1 : Nat) : Int) - r1 * ((n2 - j2 : Nat) : Int)) := Int.mul_le_mul_of_nonneg_left (by omega) (by omega)
    omega
theorem mean_eq (ok : v.Ok) {a b : Int} {n1 j1 n2 j2 : Nat} (c1 : Cyc v ms (a, hand) n1 j1) (c2 : Cyc v ms (b, hand) n2 j2) :
    ((rp v ms (a, hand) n1).1 - (rp v ms (a, hand) j1).1) * ((n2 - j2 : Nat) : Int) = ((rp v ms (b, hand) n2).1 - (rp v ms (b, hand) j2).1) * ((n1 - j1 : Nat) : Int) := by
  rcases Int.le_total a b with h | h
  · exact mean_le ok h c1 c2
  · exact (mean_le ok h c2 c1).symm
/-- t / b without a common divisor is the mean rise of the moves at a hand -/
structure Mean (v : Dv) (ms : List Int) (hand t b : Int) : Prop where
  t0 : 0 ≤ t
  b0 : 0 < b
  b5 : b ≤ 576
  low : Nat.gcd t.natAbs b.natAbs = 1
  eq : ∀ (a : Int) (n j : Nat), Cyc v ms (a, hand) n j → t * ((n - j : Nat) : Int) = b * ((rp v ms (a, hand) n).1 - (rp v ms (a, hand) j).1)
theorem Cyc.mean (ok : v.Ok) {x : Int} {n j : Nat} (cy : Cyc v ms (x, hand) n j) {r l g : Int} (hr : (rp v ms (x, hand) n).1 - (rp v ms (x, hand) j).1 = r) (hl : (n : Int) - (j : Int) = l) (hg : ((Nat.gcd r.natAbs l.natAbs : Nat) : Int) = g) : 0 < g ∧ g ≤ 576 ∧ Mean v ms hand (r / g) (l / g) := by
  have lt := cy.lt
  have n5 := cy.le ok
  have r0 := cy.rise ok
  have gp : 0 < Nat.gcd r.natAbs l.natAbs := Nat.gcd_pos_of_pos_right _ (by omega)
  have gl : Nat.gcd r.natAbs l.natAbs ≤ l.natAbs := Nat.le_of_dvd (by omega) (Nat.gcd_dvd_right _ _)
  have g0 : 0 < g := by omega
  obtain ⟨x1, hx1⟩ := Nat.gcd_dvd_left r.natAbs l.natAbs
  obtain ⟨x2, hx2⟩ := Nat.gcd_dvd_right r.natAbs l.natAbs
  have er : r = g * (x1 : Int) := by
    have : (r.natAbs : Int) = ((Nat.gcd r.natAbs l.natAbs * x1 : Nat) : Int) := by rw [← hx1]
    rw [Int.natCast_mul, hg] at this
    omega
  have el : l = g * (x2 : Int) := by
    have : (l.natAbs : Int) = ((Nat.gcd r.natAbs l.natAbs * x2 : Nat) : Int) := by rw [← hx2]
    rw [Int.natCast_mul, hg] at this
    omega
  have ed1 : r / g = (x1 : Int) := by rw [er]; exact Int.mul_ediv_cancel_left _ (by omega)
  have ed2 : l / g = (x2 : Int) := by rw [el]; exact Int.mul_ediv_cancel_left _ (by omega)
  have x2p : 0 < x2 := by
    rcases Nat.eq_zero_or_pos x2 with z | z
    · rw [z, Int.natCast_zero, Int.mul_zero] at el; omega
    · exact z
  have x2l : (x2 : Int) ≤ 576 := by
    have : 1 * (x2 : Int) ≤ g * (x2 : Int) := Int.mul_le_mul_of_nonneg_right (by omega) (by omega)
    omega
  refine ⟨g0, by omega, ?_⟩
  rw [ed1, ed2]
  refine ⟨by omega, by omega, x2l, ?_, fun a n' j' c' => ?_⟩
  · rw [Int.natAbs_natCast, Int.natAbs_natCast]
    have h1 : Nat.gcd r.natAbs l.natAbs * Nat.gcd x1 x2 = Nat.gcd r.natAbs l.natAbs * 1 := by
      rw [← Nat.gcd_mul_left, ← hx1, ← hx2, Nat.mul_one]
    exact Nat.eq_of_mul_eq_mul_left gp h1
  · have h := mean_eq ok cy c'
    rw [hr] at h
    have en : ((n - j : Nat) : Int) = l := by omega
    rw [en, er, el] at h
    apply Int.eq_of_mul_eq_mul_left (show g ≠ 0 by omega)
    rw [← Int.mul_assoc, ← Int.mul_assoc, h, Int.mul_comm]
end
theorem sl_zero {cb : Comb} (ok : cb.Ok) : ∃ r, r ∈ sl cb ∧ r = 0 := by
  refine ⟨0, ?_, rfl⟩
  obtain ⟨a1, a2, a3⟩ := flo_spec ok 0
  have p0 := ok.p1
  have m0 := Int.emod_nonneg (flo cb 0) (show cb.p ≠ 0 by omega)
  have m1 := Int.emod_lt_of_pos (flo cb 0) (show 0 < cb.p by omega)
  have e : slk cb (flo cb 0 % cb.p) = 0 := by
    rw [slk_mod ok]
    obtain ⟨b1, b2, b3⟩ := flo_spec ok (flo cb 0)
    unfold slk
    by_cases h : flo cb (flo cb 0) < flo cb 0
    · have := b3 (flo cb 0) h (Int.le_refl _)
      rw [a2] at this; cases this
    · omega
  refine List.mem_map.mpr ⟨(flo cb 0 % cb.p).toNat, List.mem_range.mpr (by omega), ?_⟩
  rw [show (((flo cb 0 % cb.p).toNat : Nat) : Int) = flo cb 0 % cb.p by omega]
  exact e
end PD

/-! PD36: a, b, c = e; slices of tuples; later states of a cycle -/
namespace PD
open PySem PySem.Spec PyProof.Rows L2 Evl
section
variable {c : Cn} {K : PySem.W.Frag} {ds : DS} {pl : List D} {Φ : W → List D → Prop} {te ta : TE} {E : EE}
theorem ws_unp3 {i j l n : Nat} (hn : n = 3) (h : WE c te ds pl (isD fun d p1 => ∃ x y z, d = .tuple [x, y, z] ∧ E.nx (((ds.set i (some (.d x))).set j (some (.d y))).set l (some (.d z))) p1)) : WS c (tAsg te (gTup K n (gCons (gName i) (gCons (gName j) (gCons (gName l) gNil))))) ds pl E := fun G σ H hs D' f =>
  h G σ H hs _ fun v G1 H1 w p1 h1 e1 f1 g1 => by
    subst hn
    match w, f1, g1 with
    | .d d, f1, ⟨x, y, z, ed, g1⟩ =>
      subst ed
      cases f1 with
      | tup a b =>
        cases b with
        | cons r1 b =>
          cases b with
          | cons r2 b =>
            cases b with
            | cons r3 b =>
              cases b
              refine ⟨_, _, rfl, SqT.of (h1.sub _ _ a), rfl, _, _, rfl, _, _, rfl, _, _, rfl, rfl, ?_⟩
              exact f.nx G1 _ H1 _ p1 (((h1.set (w := .d x) r1 fun xs z => by cases z).set (w := .d y) r2 fun xs z => by cases z).set (w := .d z) r3 fun xs z => by cases z) e1 g1
/-- t[lo:hi] of a tuple, not the whole -/
theorem we_sliceT {tl th : TO} (ha : WE c ta ds pl (isD fun x p1 => ∃ xs, x = .tuple xs ∧ WO c tl ds p1 fun lo p2 => WO c th ds p2 fun hi p3 => ¬ (HT.sIx xs.length 0 lo = 0 ∧ HT.sIx xs.length xs.length hi = xs.length) ∧ Φ (.d (.tuple (cutD xs lo hi))) p3)) : WE c (tSl (rSlT K) ta tl th) ds pl Φ := fun G σ H hs Q q =>
  ha G σ H hs _ fun v G1 H1 w p1 h1 e1 f1 g1 => by
    match w, f1, g1 with
    | .d x, f1, ⟨xs, ex, g1⟩ =>
      subst ex
      refine g1 G1 σ H1 h1 _ fun lo G2 H2 p2 h2 e2 g2 => g2 G2 σ H2 h2 _ fun hi G3 H3 p3 h3 e3 ⟨nw, g3⟩ => ?_
      cases f1 with
      | tup a b =>
        refine ⟨_, _, rfl, SqT.of (h3.sub _ _ (e3 _ _ (e2 _ _ a))), by rw [b.len]; exact nw, fun l hl => ?_⟩
        have n := h3.none_of hl
        exact q _ _ _ (.d _) p3 (h3.newD hl) ((e1.trans (e2.trans e3)).trans (Ex.new n.1)) (R.tup upd_same ((cutV_RA b lo hi).up ((e2.trans e3).trans (Ex.new n.1)))) g3
end
section
variable {v : Dv} {ms : List Int} {s : Sv}
theorem plc_step (ok : v.Ok) {a b : Nat} (h : plc v (rp v ms s a) = plc v (rp v ms s b)) (i : Nat) : plc v (rp v ms s (a + i)) = plc v (rp v ms s (b + i)) := by
  rw [rp_add, rp_add]
  exact plc_shift h (rp_shift ok ms h i)
theorem Cyc.per {n j : Nat} (ok : v.Ok) (cy : Cyc v ms s n j) {x : Nat} (h : j ≤ x) : ∀ k : Nat, plc v (rp v ms s (x + (n - j) * k)) = plc v (rp v ms s x)
  | 0 => rfl
  | k + 1 => by
    have lt := cy.lt
    have e := plc_step ok cy.eq (x - j + (n - j) * k)
    rw [show x + (n - j) * (k + 1) = n + (x - j + (n - j) * k) by rw [Nat.mul_add]; omega, ← e, show j + (x - j + (n - j) * k) = x + (n - j) * k by omega]
    exact cy.per ok h k
theorem Cyc.dvd {n j : Nat} (ok : v.Ok) (cy : Cyc v ms s n j) {x k : Nat} (h : j ≤ x) (e : plc v (rp v ms s x) = plc v (rp v ms s (x + k))) : (n - j) ∣ k := by
  have lt := cy.lt
  have red : ∀ y, j ≤ y → plc v (rp v ms s y) = plc v (rp v ms s (j + (y - j) % (n - j))) := fun y hy => by
    have q := cy.per ok (x := j + (y - j) % (n - j)) (by omega) ((y - j) / (n - j))
    rw [← q]
    congr 2
    have := Nat.mod_add_div (y - j) (n - j)
    omega
  have m1 := Nat.mod_lt (x - j) (show 0 < n - j by omega)
  have m2 := Nat.mod_lt (x + k - j) (show 0 < n - j by omega)
  rw [red x h, red (x + k) (by omega)] at e
  have eq : (x - j) % (n - j) = (x + k - j) % (n - j) := by
    rcases Nat.lt_trichotomy ((x - j) % (n - j)) ((x + k - j) % (n - j)) with z | z | z
    · exact absurd e (cy.inj _ _ (by omega) (by omega))
    · exact z
    · exact absurd e.symm (cy.inj _ _ (by omega) (by omega))
  have a1 := Nat.mod_add_div (x - j) (n - j)
  have a2 := Nat.mod_add_div (x + k - j) (n - j)
  have a3 : (n - j) * ((x - j) / (n - j)) + k = (n - j) * ((x + k - j) / (n - j)) := by omega
  exact (Nat.dvd_add_right (Nat.dvd_mul_right _ _)).mp (a3 ▸ Nat.dvd_mul_right (n - j) _)
/-- from a later state the cycle is as long, and raises as much -/
theorem Cyc.later {n j n' j' t : Nat} (ok : v.Ok) (cy : Cyc v ms s n j) (cy' : Cyc v ms (rp v ms s t) n' j') : n' - j' = n - j ∧ (rp v ms (rp v ms s t) n').1 - (rp v ms (rp v ms s t) j').1 = (rp v ms s n).1 - (rp v ms s j).1 := by
  have lt := cy.lt
  have lt' := cy'.lt
  have p1 : plc v (rp v ms s (t + j' + j)) = plc v (rp v ms s (t + j' + j + (n - j))) := (cy.per ok (x := t + j' + j) (by omega) 1 ▸ by rw [Nat.mul_one])
  have p2 : plc v (rp v ms s (t + j' + j)) = plc v (rp v ms s (t + j' + j + (n' - j'))) := by
    have q := cy'.per ok (x := j' + j) (by omega) 1
    rw [Nat.mul_one, ← rp_add, ← rp_add] at q
    rw [show t + j' + j = t + (j' + j) by omega, show t + (j' + j) + (n' - j') = t + (j' + j + (n' - j')) by omega]
    exact q.symm
  have d1 : (n - j) ∣ (n' - j') := cy.dvd ok (by omega) p2
  have d2 : (n' - j') ∣ (n - j) := by
    refine cy'.dvd ok (x := j' + j) (by omega) ?_
    rw [← rp_add, ← rp_add, show t + (j' + j) = t + j' + j by omega, show t + (j' + j + (n - j)) = t + j' + j + (n - j) by omega]
    exact p1
  have el : n' - j' = n - j := Nat.dvd_antisymm d2 d1
  refine ⟨el, ?_⟩
  have s1 := congrArg Prod.fst (cy.step ok (show j ≤ t + (j' + j) by omega))
  have s2 := congrArg Prod.fst (cy'.step ok (show j' ≤ j' + j by omega))
  rw [← rp_add, ← rp_add, el, ← Nat.add_assoc] at s2
  have s2' : (rp v ms s (t + (j' + j) + (n - j))).1 = (rp v ms s (t + (j' + j))).1 + ((rp v ms (rp v ms s t) n').1 - (rp v ms (rp v ms s t) j').1) := s2
  have s1' : (rp v ms s (t + (j' + j) + (n - j))).1 = (rp v ms s (t + (j' + j))).1 + ((rp v ms s n).1 - (rp v ms s j).1) := s1
  omega
end
def c24 : Comb := ⟨24, [0]⟩
def c23 : Comb := ⟨23, [0]⟩
theorem ok_2423 : Dv.Ok (c24, c23) := ⟨⟨by decide, by decide, by decide, by decide, by decide, by decide⟩, ⟨by decide, by decide, by decide, by decide, by decide, by decide⟩⟩
theorem cyc_6 : Cyc (c24, c23) [1] (0, 0) 24 0 := cyc_of (by decide) (by decide +kernel) (by decide +kernel)
end PD

/-! PD37: found.append(left.pop(k)); left, found = list(range(n)), [] -/
namespace PD
open PySem PySem.Spec PyProof.Rows L2 Evl
theorem seqIx_nat {n l : Nat} (h : n < l) : seqIndex? (n : Int) l = some n := by
  unfold seqIndex?
  simp
  omega
section
variable {c : Cn} {K : PySem.W.Frag} {ds : DS} {pl : List D} {Φ : W → List D → Prop} {te ta : TE} {E : EE}
theorem ws_appPop {i j : Nat} {xs ys : List D} (hi : ds[i]? = some (some (.o xs))) (hj : ds[j]? = some (some (.o ys))) (hij : i ≠ j)
    (h : WE c te ds pl (isI fun k p1 => ∃ (n : Nat) (y : D), k = (n : Int) ∧ n < 100000 ∧ ys[n]? = some y ∧ xs.length < sizeLine ∧ E.nx ((ds.set j (some (.o (ys.eraseIdx n)))).set i (some (.o (xs ++ [y])))) p1)) :
    WS c (tDrop (tBM K "list" rAppend (tVar i) (tCons (tBM K "list" rPopAt (tVar j) (tCons te tNil)) tNil))) ds pl E := fun G σ H hs D' f => by
  obtain ⟨v, e1, p, vs, rfl, b1, b2⟩ := hs.slots i _ hi
  obtain ⟨v2, d1, p2, vs2, rfl, b3, b4⟩ := hs.slots j _ hj
  refine ⟨_, e1, Or.inl ⟨rfl, _, SqL.of b1⟩, ?_⟩
  refine ⟨_, d1, Or.inl ⟨rfl, _, SqL.of b3⟩, ?_⟩
  refine h G σ H hs _ fun v G1 H1 w p1 h1 e2 f1 g1 => ?_
  match w, f1, g1 with
  | .d (.int k), f1, ⟨n, y, ek, hn, hy, hl, g2⟩ =>
    subst ek
    cases f1
    obtain ⟨v', e1', p', vs', rfl, c1, c2, _⟩ := h1.slots i _ hi
    have ep : p' = p := by rw [e1] at e1'; exact (V.ref.inj (Option.some.inj (Option.some.inj e1'))).symm
    subst ep
    obtain ⟨v3, d1', p3, vs3, rfl, c3, c4, _⟩ := h1.slots j _ hj
    have ep2 : p3 = p2 := by rw [d1] at d1'; exact (V.ref.inj (Option.some.inj (Option.some.inj d1'))).symm
    subst ep2
    have hlt : n < ys.length := (List.getElem?_eq_some_iff.mp hy).1
    have hlt2 : n < vs3.length := by rw [c4.len]; exact hlt
    obtain ⟨yd, hyd, hr⟩ := c4.get' (List.getElem?_eq_getElem hlt2)
    rw [hy] at hyd
    cases hyd
    refine ⟨p3, vs3, (n : Int), n, vs3[n], rfl, rfl, c3, by omega, by omega, seqIx_nat hlt2, List.getElem?_eq_getElem hlt2, ?_⟩
    have h2 := h1.chg hj d1 (c4.erase n)
    have hi2 : (ds.set j (some (.o (ys.eraseIdx n))))[i]? = some (some (.o xs)) := by rw [List.getElem?_set_ne (Ne.symm hij)]; exact hi
    obtain ⟨v4, e4, p4, vs4, rfl, c5, c6, _⟩ := h2.slots i _ hi2
    have ep4 : p4 = p' := by rw [e1] at e4; exact (V.ref.inj (Option.some.inj (Option.some.inj e4))).symm
    subst ep4
    refine ⟨p4, vs4, vs3[n], rfl, rfl, c5, by rw [c6.len]; exact hl, ?_⟩
    exact f.nx G1 σ _ _ p1 (h2.chg hi2 e1 (c6.app (.cons hr .nil))) e2 g2
theorem ws_parLR {i j : Nat} (h : WE c ta ds pl (isI fun k p1 => ∃ n : Nat, k = (n : Int) ∧ n ≤ 100000 ∧ E.nx ((ds.set i (some (.o (((List.range n).map fun (i : Nat) => (i : Int)).map PyData.int)))).set j (some (.o []))) p1)) :
    WS c (tPar i j (tCons (tLstRg (tRg1 ta)) (tCons (tLst tNil) tNil))) ds pl E := fun G σ H hs D' f =>
  h G σ H hs _ fun v G1 H1 w p1 h1 e1 f1 g1 => by
    match w, f1, g1 with
    | .d (.int k), f1, ⟨n, ek, hn, g1⟩ =>
      subst ek
      cases f1
      refine ⟨n, rfl, RgOk.of_le (by omega) (by omega) (by omega) (by omega), fun l hl => ?_⟩
      refine ⟨Nat.zero_le _, fun p hp => ⟨_, _, rfl, ?_⟩⟩
      rw [rgV_ints] at hp ⊢
      exact f.nx G1 _ _ _ p1 ((h1.newO hl (RA.of_ints _) i).newO hp .nil j) e1 g1
end
end PD

/-! PD38: erased items (mathematics); cycles within the remainders of bars (mathematics) -/
namespace PD
open PySem PySem.Spec PyProof.Rows L2 Evl
theorem erase_map {A B : Type} (f : A → B) : ∀ (l : List A) (n : Nat), (l.map f).eraseIdx n = (l.eraseIdx n).map f
  | [], _ => rfl
  | _ :: _, 0 => rfl
  | a :: r, n + 1 => by
    show f a :: (r.map f).eraseIdx n = f a :: (r.eraseIdx n).map f
    rw [erase_map f r n]
theorem erase_perm {A : Type} : ∀ {l : List A} {n : Nat} (h : n < l.length), (l[n] :: l.eraseIdx n).Perm l
  | a :: r, 0, _ => .refl _
  | a :: r, n + 1, h => by
    have h' : n < r.length := Nat.lt_of_succ_lt_succ h
    show (r[n] :: a :: r.eraseIdx n).Perm (a :: r)
    exact (List.Perm.swap a r[n] _).trans ((erase_perm h').cons a)
section
variable {v : Dv} {ms : List Int} {x arm : Int}
/-- of moves that come to 0 all states have one hand; so no more are ahead than there are remainders -/
theorem Cyc.leL {n j : Nat} (ok : v.Ok) (cy : Cyc v ms (x, arm) n j) (s0 : ms.sum = 0) {L : Int} (cm : Com v L) : (n : Int) ≤ L := by
  have L0 := cm.pos
  have hand : ∀ i, (rp v ms (x, arm) i).2 = arm := fun i => by rw [rp_hand, s0, Int.mul_zero, Int.add_zero]
  have h := pigeon L.toNat n (fun i => ((rp v ms (x, arm) i).1 % L).toNat) (fun i hi => ?_) (fun i k hik hk e => ?_)
  · omega
  · have a1 := Int.emod_nonneg (rp v ms (x, arm) i).1 (show L ≠ 0 by omega)
    have a2 := Int.emod_lt_of_pos (rp v ms (x, arm) i).1 L0
    show ((rp v ms (x, arm) i).1 % L).toNat < L.toNat
    omega
  · have e' : ((rp v ms (x, arm) i).1 % L).toNat = ((rp v ms (x, arm) k).1 % L).toNat := e
    have a1 := Int.emod_nonneg (rp v ms (x, arm) i).1 (show L ≠ 0 by omega)
    have b1 := Int.emod_nonneg (rp v ms (x, arm) k).1 (show L ≠ 0 by omega)
    have a3 := Int.mul_ediv_add_emod (rp v ms (x, arm) i).1 L
    have b3 := Int.mul_ediv_add_emod (rp v ms (x, arm) k).1 L
    refine cy.inj i k hik hk ?_
    have q := cm.plc (rp v ms (x, arm) i).1 arm ((rp v ms (x, arm) k).1 / L - (rp v ms (x, arm) i).1 / L)
    have e2 : (rp v ms (x, arm) i).1 + L * ((rp v ms (x, arm) k).1 / L - (rp v ms (x, arm) i).1 / L) = (rp v ms (x, arm) k).1 := by rw [Int.mul_sub]; omega
    rw [e2] at q
    have w1 : rp v ms (x, arm) i = ((rp v ms (x, arm) i).1, arm) := by ext; rfl; exact hand i
    have w2 : rp v ms (x, arm) k = ((rp v ms (x, arm) k).1, arm) := by ext; rfl; exact hand k
    rw [w1, w2]
    exact q
/-- bars at one place are a common pitch apart -/
theorem plc_apart {a b : Int} {L : Int} (lc : ∀ y : Int, y % v.1.p = 0 → y % v.2.p = 0 → y % L = 0) (h : plc v (a, arm) = plc v (b, arm)) : (b - a) % L = 0 := by
  have h1 : a % v.1.p = b % v.1.p := congrArg Prod.fst h
  have h2 : (a - arm) % v.2.p = (b - arm) % v.2.p := congrArg Prod.snd h
  refine lc _ (Int.emod_eq_zero_of_dvd ?_) (Int.emod_eq_zero_of_dvd ?_)
  · exact Int.dvd_of_emod_eq_zero (Int.emod_eq_emod_iff_emod_sub_eq_zero.mp h1.symm)
  · have := Int.dvd_of_emod_eq_zero (Int.emod_eq_emod_iff_emod_sub_eq_zero.mp h2.symm)
    rwa [show b - arm - (a - arm) = b - a by omega] at this
theorem least_nat (P : Nat → Prop) : ∀ k, P k → ∃ n, n ≤ k ∧ P n ∧ ∀ m, m < n → ¬ P m := fun k => by
  induction k using Nat.strongRecOn with
  | _ k ih =>
    intro hk
    by_cases h : ∃ m, m < k ∧ P m
    · obtain ⟨m, hm, pm⟩ := h
      obtain ⟨n, h1, h2, h3⟩ := ih m hm pm
      exact ⟨n, by omega, h2, h3⟩
    · exact ⟨k, Nat.le_refl _, hk, fun m hm pm => h ⟨m, hm, pm⟩⟩
theorem cyc_back {s : Sv} (ok : v.Ok) {k : Nat} (hk : 0 < k) (e : plc v s = plc v (rp v ms s k)) : ∃ n, n ≤ k ∧ Cyc v ms s n 0 := by
  obtain ⟨n, h1, ⟨h2, h3⟩, h4⟩ := least_nat (fun n => 0 < n ∧ plc v s = plc v (rp v ms s n)) k ⟨hk, e⟩
  refine ⟨n, h1, ⟨h2, h3, fun i i' hi hi' e2 => ?_⟩⟩
  have q := plc_step ok e2 (n - i')
  rw [show i' + (n - i') = n by omega] at q
  exact h4 (i + (n - i')) (by omega) ⟨by omega, h3.trans q.symm⟩
/-- a rise of bars at one place behind k rounds tells the mean -/
theorem Mean.told {t b : Int} (ok : v.Ok) (mn : Mean v ms arm t b) {y : Int} {k : Nat} (hk : 0 < k) (e : plc v (y, arm) = plc v (rp v ms (y, arm) k)) : ((rp v ms (y, arm) k).1 - y) * b = t * (k : Int) ∧ b ≤ (k : Int) := by
  obtain ⟨n, hn, cy⟩ := cyc_back ok hk e
  have lt := cy.lt
  obtain ⟨q, hq⟩ := cy.dvd ok (x := 0) (Nat.le_refl _) (show plc v (rp v ms (y, arm) 0) = plc v (rp v ms (y, arm) (0 + k)) by rw [Nat.zero_add]; exact e)
  have m := cy.many ok 0 q
  rw [show 0 + 0 + (n - 0) * q = k by omega] at m
  have z0 : (rp v ms (y, arm) (0 + 0)).1 = y := rfl
  have z1 : (rp v ms (y, arm) 0).1 = y := rfl
  rw [z0] at m
  have me := mn.eq y n 0 cy
  rw [z1, Nat.sub_zero] at me
  have kq : (k : Int) = (n : Int) * (q : Int) := by rw [hq, Nat.sub_zero, Int.natCast_mul]
  constructor
  · rw [m, kq, show y + (q : Int) * ((rp v ms (y, arm) n).1 - y) - y = (q : Int) * ((rp v ms (y, arm) n).1 - y) by omega, Int.mul_assoc, Int.mul_comm ((rp v ms (y, arm) n).1 - y) b, ← me, Int.mul_left_comm, Int.mul_comm (q : Int)]
  · have d : b.natAbs ∣ n := by
      have c1 : Nat.Coprime b.natAbs t.natAbs := (Nat.gcd_comm _ _).trans mn.low
      refine c1.dvd_of_dvd_mul_left ?_
      have := congrArg Int.natAbs me
      rw [Int.natAbs_mul, Int.natAbs_mul, Int.natAbs_natCast] at this
      rw [this]
      exact Nat.dvd_mul_right _ _
    have := Nat.le_of_dvd lt d
    have b0 := mn.b0
    omega
end
end PD

/-! PD39: comprehensions over a range that is met; cycles are there; one mean alone -/
namespace PD
open PySem PySem.Spec PyProof.Rows L2 Evl
section
variable {c : Cn} {K : PySem.W.Frag} {ds : DS} {pl : List D} {Φ : W → List D → Prop} {te : TE} {tt : TT} {tr : TA}
theorem we_lcRE {j : Nat} (Pn : Nat → Prop) (J : Nat → List D → List D → Prop) (hj : ∀ (xs : List D), ds[j]? ≠ some (some (W.o xs))) (h : WA c tr ds pl fun ys p1 => ∃ n : Nat, ys = [.int (n : Int)] ∧ n < 100000 ∧ Pn n ∧ J 0 [] p1)
    (user : ∀ n, Pn n → ∀ (i : Nat) acc pl', i < n → J i acc pl' → ∀ pin, WT { c with pin := pin } tt ((wipeD ds [j]).set j (some (.d (.int i)))) pl' fun b p2 => if b = true then WE { c with pin := pin } te ((wipeD ds [j]).set j (some (.d (.int i)))) p2
      (isD fun y p3 => acc.length < sizeLine ∧ J (i + 1) (acc ++ [y]) p3) else J (i + 1) acc p2)
    (hq : ∀ n, Pn n → ∀ acc pl', J n acc pl' → Φ (.d (.list acc)) pl') : WE c (tLc (iRng1 tr) (gName j) tt te [j]) ds pl Φ := fun G σ H h0 Q q => h G σ H h0 _ fun vs G1 H1 xs p1 h1 e1 f1 ⟨n, e, bn, pn, g1⟩ => by
  subst e
  cases f1 with
  | cons r1 b =>
    cases b
    cases r1
    refine ⟨(n : Int), rfl, by omega, by omega, fun Dl hD => ?_⟩
    have f := df_new h1 hD
    rw [Int.toNat_natCast]
    refine lc_range (lo := 0) (n := n) (PvC c σ ds G1 Dl J) (pv_start J h1 hD g1) ?_ ?_
    · intro i H' hi p
      have e0 : (0 : Int) + (i : Int) = (i : Int) := Int.zero_add _
      rw [e0]
      exact ⟨wipe_set σ j _, lc_turnD J f hj p (fun G' e => R.int _) fun acc pl' hJ pin => user n pn i acc pl' hi hJ pin⟩
    · intro H' p
      exact pv_end f p (hq n pn) fun v G' H' w pl' h2 e2 f2 g2 => q v G' H' w pl' h2 (e1.trans e2) f2 g2
end
section
variable {v : Dv} {ms : List Int} {s : Sv} {arm : Int}
theorem cyc_ex (ok : v.Ok) : ∃ n j, Cyc v ms s n j := by
  have ex : ∃ k, ∃ i, i < k ∧ plc v (rp v ms s i) = plc v (rp v ms s k) := by
    apply Classical.byContradiction
    intro no
    have := inj_le ok (ms := ms) (s := s) (n := 577) fun i k hik hk e => no ⟨k, i, hik, e⟩
    omega
  obtain ⟨k, hk⟩ := ex
  obtain ⟨n, _, ⟨j, hj, e⟩, lo⟩ := least_nat (fun k => ∃ i, i < k ∧ plc v (rp v ms s i) = plc v (rp v ms s k)) k hk
  exact ⟨n, j, hj, e, fun i i' hi hi' e2 => lo i' hi' ⟨i, hi, e2⟩⟩
theorem Mean.uniq {t b t' b' : Int} (ok : v.Ok) (m : Mean v ms arm t b) (m' : Mean v ms arm t' b') : t = t' ∧ b = b' := by
  obtain ⟨n, j, cy⟩ := cyc_ex (v := v) (ms := ms) (s := (0, arm)) ok
  have lt := cy.lt
  have e1 := m.eq 0 n j cy
  have e2 := m'.eq 0 n j cy
  have n0 : ((n - j : Nat) : Int) ≠ 0 := by omega
  have k1 : t * b' = t' * b := by
    apply Int.eq_of_mul_eq_mul_right n0
    have h1 : t * b' * ((n - j : Nat) : Int) = b * ((rp v ms (0, arm) n).1 - (rp v ms (0, arm) j).1) * b' := by rw [Int.mul_right_comm, e1]
    have h2 : t' * b * ((n - j : Nat) : Int) = b' * ((rp v ms (0, arm) n).1 - (rp v ms (0, arm) j).1) * b := by rw [Int.mul_right_comm, e2]
    rw [h1, h2, Int.mul_comm (b * _) b', Int.mul_comm b, ← Int.mul_assoc]
  have t0 := m.t0
  have b0 := m.b0
  have t0' := m'.t0
  have b0' := m'.b0
  have kn : t.natAbs * b'.natAbs = t'.natAbs * b.natAbs := by rw [← Int.natAbs_mul, ← Int.natAbs_mul, k1]
  have d1 : b.natAbs ∣ b'.natAbs := by
    have c1 : Nat.Coprime b.natAbs t.natAbs := (Nat.gcd_comm _ _).trans m.low
    refine c1.dvd_of_dvd_mul_left ?_
    rw [kn]; exact Nat.dvd_mul_left _ _
  have d2 : b'.natAbs ∣ b.natAbs := by
    have c1 : Nat.Coprime b'.natAbs t'.natAbs := (Nat.gcd_comm _ _).trans m'.low
    refine c1.dvd_of_dvd_mul_left ?_
    rw [← kn]; exact Nat.dvd_mul_left _ _
  have eb := Nat.dvd_antisymm d1 d2
  have eb' : b = b' := by omega
  subst eb'
  exact ⟨Int.eq_of_mul_eq_mul_right (by omega) k1, rfl⟩
theorem Mean.of {n j : Nat} (ok : v.Ok) {x t b : Int} (cy : Cyc v ms (x, arm) n j) (h : (rp v ms (x, arm) n).1 - (rp v ms (x, arm) j).1 = t * (Nat.gcd ((rp v ms (x, arm) n).1 - (rp v ms (x, arm) j).1).natAbs ((n : Int) - (j : Int)).natAbs : Nat) ∧ (n : Int) - (j : Int) = b * (Nat.gcd ((rp v ms (x, arm) n).1 - (rp v ms (x, arm) j).1).natAbs ((n : Int) - (j : Int)).natAbs : Nat)) : Mean v ms arm t b := by
  obtain ⟨g0, g5, mn⟩ := cy.mean ok rfl rfl rfl
  have e1 := Int.mul_ediv_cancel t (show ((Nat.gcd ((rp v ms (x, arm) n).1 - (rp v ms (x, arm) j).1).natAbs ((n : Int) - (j : Int)).natAbs : Nat) : Int) ≠ 0 by omega)
  have e2 := Int.mul_ediv_cancel b (show ((Nat.gcd ((rp v ms (x, arm) n).1 - (rp v ms (x, arm) j).1).natAbs ((n : Int) - (j : Int)).natAbs : Nat) : Int) ≠ 0 by omega)
  rw [← h.1] at e1
  rw [← h.2] at e2
  rw [e1, e2] at mn
  exact mn
end
end PD

/-! PD40: in a tuple of numbers; means told -/
namespace PD
open PySem PySem.Spec PyProof.Rows L2 Evl
section
variable {c : Cn} {K : PySem.W.Frag} {ds : DS} {pl : List D} {Φ : W → List D → Prop}
theorem os_inT {i : Int} {ns : List Int} {p2 : List D} (h : Φ (.d (.bool (decide (i ∈ ns)))) p2) : OpS c (rIn K false) ds (.int i) (.tuple (ns.map PyData.int)) p2 Φ := fun G σ H v u hs hv hu Q q => by
  have ev := hv.int
  subst ev
  rcases hu with hu | ⟨p, vs, xs, rfl, e, _⟩
  · cases hu with
    | tup a b =>
      have evs := b.ints
      subst evs
      refine ⟨_, _, rfl, .inr (SqT.of (hs.sub _ _ a)), rfl, flat_ints ns, ?_⟩
      show Q (.bl (inV (.int i) (ns.map V.int))) H
      rw [inV_ints]
      exact q _ G H (.d _) p2 hs (Ex.refl _) (R.bl _) h
  · cases e
end
theorem cyc_7 : Cyc (c3, c5) [6, -6] (0, 0) 3 2 := cyc_of (by decide) (by decide +kernel) (by decide +kernel)
theorem cyc_8 : Cyc (c3, c5) [7, -7] (0, 0) 3 0 := cyc_of (by decide) (by decide +kernel) (by decide +kernel)
theorem cyc_9 : Cyc (c3, c5) [7, -3, 2, -6] (0, 0) 3 0 := cyc_of (by decide) (by decide +kernel) (by decide +kernel)
theorem cyc_a : Cyc (c103, c10) [13, -13] (0, 0) 2 1 := cyc_of (by decide) (by decide +kernel) (by decide +kernel)
theorem mean_1 : Mean (c3, c5) [6, -6] 0 0 1 := Mean.of ok_nar cyc_7 (by decide +kernel)
theorem mean_2 : Mean (c3, c5) [7, -7] 0 5 1 := Mean.of ok_nar cyc_8 (by decide +kernel)
theorem mean_3 : Mean (c3, c5) [10, -10] 0 15 2 := Mean.of ok_nar cyc_5 (by decide +kernel)
theorem mean_4 : Mean (c3, c5) [7, -3, 2, -6] 0 5 1 := Mean.of ok_nar cyc_9 (by decide +kernel)
theorem mean_5 : Mean (c103, c10) [13, -13] 0 10 1 := Mean.of ok_wide cyc_a (by decide +kernel)
theorem mean_bound {v : Dv} {ms : List Int} {arm t b : Int} (ok : v.Ok) (mn : Mean v ms arm t b) (mb : ∀ m ∈ ms, m.natAbs ≤ 10 ^ 40) (ml : ms.length ≤ 40) : t ≤ 10 ^ 60 := by
  obtain ⟨n, j, cy⟩ := cyc_ex (v := v) (ms := ms) (s := (0, arm)) ok
  have lt := cy.lt
  have n5 := cy.le ok
  have e := mn.eq 0 n j cy
  have h2 : ms.length * (10 ^ 40 + 48) ≤ 40 * (10 ^ 40 + 48) := Nat.mul_le_mul_right _ ml
  have hb : ∀ i, i ≤ 576 → (rp v ms (0, arm) i).1.natAbs ≤ 10 ^ 45 := fun i hi => by
    have h1 := (rp_bound ok mb (0, arm) i).1
    have h3 : i * (ms.length * (10 ^ 40 + 48)) ≤ 576 * (40 * (10 ^ 40 + 48)) := Nat.mul_le_mul hi h2
    have h4 : (rp v ms (0, arm) i).1.natAbs ≤ (0 : Int).natAbs + i * (ms.length * (10 ^ 40 + 48)) := h1
    omega
  have b1 := hb n n5
  have b2 := hb j (by omega)
  have r0 := cy.rise ok
  have k1 : t * 1 ≤ t * ((n - j : Nat) : Int) := Int.mul_le_mul_of_nonneg_left (by omega) mn.t0
  have k2 : b * ((rp v ms (0, arm) n).1 - (rp v ms (0, arm) j).1) ≤ 576 * ((rp v ms (0, arm) n).1 - (rp v ms (0, arm) j).1) := Int.mul_le_mul_of_nonneg_right mn.b5 (by omega)
  omega
end PD

/-! PD41: means at hands a common pitch away; pumps of greater spans (mathematics) -/
namespace PD
open PySem PySem.Spec PyProof.Rows L2 Evl
section
variable {v : Dv} {ms : List Int} {arm : Int}
theorem Com.plc2 {L : Int} (c : Com v L) (a arm k : Int) : PD.plc v (a, arm) = PD.plc v (a + L * k, arm + L * k) := by
  obtain ⟨x, hx⟩ := Int.dvd_of_emod_eq_zero c.d1
  show (a % v.1.p, (a - arm) % v.2.p) = ((a + L * k) % v.1.p, (a + L * k - (arm + L * k)) % v.2.p)
  rw [show a + L * k - (arm + L * k) = a - arm by omega, hx, Int.mul_assoc, Int.add_mul_emod_self_left]
theorem Cyc.armS {L : Int} (ok : v.Ok) (cm : Com v L) {a : Int} {n j : Nat} (cy : Cyc v ms (a, arm) n j) (k : Int) : Cyc v ms (a + L * k, arm + L * k) n j ∧ (rp v ms (a + L * k, arm + L * k) n).1 - (rp v ms (a + L * k, arm + L * k) j).1 = (rp v ms (a, arm) n).1 - (rp v ms (a, arm) j).1 := by
  have h := cm.plc2 a arm k
  have sh := rp_shift ok ms h
  have pl : ∀ i, PD.plc v (rp v ms (a, arm) i) = PD.plc v (rp v ms (a + L * k, arm + L * k) i) := fun i => plc_shift h (sh i)
  refine ⟨⟨cy.lt, by rw [← pl, ← pl]; exact cy.eq, fun i i' h1 h2 => by rw [← pl, ← pl]; exact cy.inj i i' h1 h2⟩, ?_⟩
  rw [sh n, sh j]
  show (rp v ms (a, arm) n).1 + (a + L * k - a) - ((rp v ms (a, arm) j).1 + (a + L * k - a)) = _
  omega
theorem Mean.armS {L t b : Int} (ok : v.Ok) (cm : Com v L) (mn : Mean v ms arm t b) (k : Int) : Mean v ms (arm + L * k) t b := by
  refine ⟨mn.t0, mn.b0, mn.b5, mn.low, fun a n j cy => ?_⟩
  have q := cy.armS ok cm (-k)
  have e : arm + L * k + L * -k = arm := by rw [Int.mul_neg]; omega
  rw [e] at q
  rw [← q.2]
  exact mn.eq _ n j q.1
/-- a pump of a span from both pitches on -/
theorem pump_mv (ok : v.Ok) {z h : Int} (z1 : v.1.p ≤ z) (z2 : v.2.p ≤ z) : (mvs v (h, arm) [z, 0 - z]) = (flo v.1 (flo v.2 (h - arm) + arm + z), arm) := by
  have p1 := ok.1.p1
  have p2 := ok.2.p1
  have f2 := slk_lt ok.2 (h - arm)
  have f1 := slk_lt ok.1 (flo v.2 (h - arm) + arm + z)
  unfold slk at f1 f2
  have m1 : mv v (h, arm) z = (arm + z + max (h - arm - z) (flo v.2 (h - arm)), arm + z) := by
    unfold mv
    rw [if_pos (show z > 0 by omega)]
  have e1 : arm + z + max (h - arm - z) (flo v.2 (h - arm)) = flo v.2 (h - arm) + arm + z := by omega
  rw [e1] at m1
  have m2 : mv v (flo v.2 (h - arm) + arm + z, arm + z) (0 - z) = (max (flo v.2 (h - arm) + arm + z + (0 - z)) (flo v.1 (flo v.2 (h - arm) + arm + z)), arm + z + (0 - z)) := by
    unfold mv
    rw [if_neg (show ¬ (0 - z) > 0 by omega)]
  show mv v (mv v (h, arm) z) (0 - z) = _
  rw [m1, m2]
  ext
  · show max _ _ = flo v.1 _
    omega
  · show arm + z + (0 - z) = arm
    omega
theorem pump_rp {L : Int} (ok : v.Ok) (cm : Com v L) {z h : Int} (z1 : v.1.p ≤ z) (z2 : v.2.p ≤ z) : ∀ i : Nat, rp v [z + L, 0 - z - L] (h, arm) i = ((rp v [z, 0 - z] (h, arm) i).1 + L * (i : Int), arm) ∧ (rp v [z, 0 - z] (h, arm) i).2 = arm
  | 0 => ⟨by show (h, arm) = (h + L * ((0 : Nat) : Int), arm); rw [Int.natCast_zero, Int.mul_zero, Int.add_zero], rfl⟩
  | i + 1 => by
    obtain ⟨e1, e2⟩ := pump_rp ok cm z1 z2 i
    have L0 := cm.pos
    obtain ⟨x, hx⟩ := Int.dvd_of_emod_eq_zero cm.d1
    obtain ⟨y, hy⟩ := Int.dvd_of_emod_eq_zero cm.d2
    have q1 : rp v [z, 0 - z] (h, arm) (i + 1) = mvs v (rp v [z, 0 - z] (h, arm) i) [z, 0 - z] := rfl
    have q2 : rp v [z + L, 0 - z - L] (h, arm) (i + 1) = mvs v (rp v [z + L, 0 - z - L] (h, arm) i) [z + L, 0 - z - L] := rfl
    have eta : rp v [z, 0 - z] (h, arm) i = ((rp v [z, 0 - z] (h, arm) i).1, arm) := by ext; rfl; exact e2
    rw [q2, e1, q1, eta]
    generalize (rp v [z, 0 - z] (h, arm) i).1 = g
    rw [show 0 - z - L = 0 - (z + L) by omega, pump_mv ok (show v.1.p ≤ z + L by omega) (show v.2.p ≤ z + L by omega), pump_mv ok z1 z2]
    refine ⟨?_, rfl⟩
    have s2 : flo v.2 (g + L * (i : Int) - arm) = flo v.2 (g - arm) + L * (i : Int) := by
      have := flo_shift ok.2 (g - arm) (y * (i : Int))
      rw [← Int.mul_assoc, ← hy] at this
      rw [← this]
      congr 1
      omega
    rw [s2]
    have s1 : flo v.1 (flo v.2 (g - arm) + L * (i : Int) + arm + (z + L)) = flo v.1 (flo v.2 (g - arm) + arm + z) + L * ((i + 1 : Nat) : Int) := by
      have := flo_shift ok.1 (flo v.2 (g - arm) + arm + z) (x * ((i + 1 : Nat) : Int))
      rw [← Int.mul_assoc, ← hx] at this
      rw [← this]
      congr 1
      rw [show ((i + 1 : Nat) : Int) = (i : Int) + 1 by omega, Int.mul_add, Int.mul_one]
      omega
    rw [s1]
theorem Mean.pump {L t b : Int} (ok : v.Ok) (cm : Com v L) {z : Int} (z1 : v.1.p ≤ z) (z2 : v.2.p ≤ z) (mn : Mean v [z, 0 - z] arm t b) : Mean v [z + L, 0 - z - L] arm (t + L * b) b := by
  have L0 := cm.pos
  have b0 := mn.b0
  have t0 := mn.t0
  have lb : 0 ≤ L * b := Int.mul_nonneg (by omega) (by omega)
  refine ⟨by omega, mn.b0, mn.b5, ?_, fun a n j cy => ?_⟩
  · have h1 : (t + L * b).natAbs = t.natAbs + L.natAbs * b.natAbs := by rw [← Int.natAbs_mul]; omega
    rw [h1, Nat.gcd_add_mul_right_left]
    exact mn.low
  · have pr := fun i => (pump_rp (arm := arm) (h := a) ok cm z1 z2 i)
    have pe : ∀ i, PD.plc v (rp v [z + L, 0 - z - L] (a, arm) i) = PD.plc v (rp v [z, 0 - z] (a, arm) i) := fun i => by
      rw [(pr i).1]
      have eta : rp v [z, 0 - z] (a, arm) i = ((rp v [z, 0 - z] (a, arm) i).1, arm) := by ext; rfl; exact (pr i).2
      conv => rhs; rw [eta]
      exact (cm.plc _ arm (i : Int)).symm
    have cy0 : Cyc v [z, 0 - z] (a, arm) n j := ⟨cy.lt, by rw [← pe, ← pe]; exact cy.eq, fun i i' h1 h2 => by rw [← pe, ← pe]; exact cy.inj i i' h1 h2⟩
    have lt := cy.lt
    have me := mn.eq a n j cy0
    rw [(pr n).1, (pr j).1]
    show (t + L * b) * ((n - j : Nat) : Int) = b * ((rp v [z, 0 - z] (a, arm) n).1 + L * (n : Int) - ((rp v [z, 0 - z] (a, arm) j).1 + L * (j : Int)))
    have en : ((n - j : Nat) : Int) = (n : Int) - (j : Int) := by omega
    have e3 : (rp v [z, 0 - z] (a, arm) n).1 + L * (n : Int) - ((rp v [z, 0 - z] (a, arm) j).1 + L * (j : Int)) = ((rp v [z, 0 - z] (a, arm) n).1 - (rp v [z, 0 - z] (a, arm) j).1) + L * ((n - j : Nat) : Int) := by rw [en, Int.mul_sub]; omega
    rw [e3, Int.add_mul, Int.mul_add, me, ← Int.mul_assoc b L, Int.mul_comm b L]
theorem Mean.pumps {L t b : Int} (ok : v.Ok) (cm : Com v L) {z : Int} (z1 : v.1.p ≤ z) (z2 : v.2.p ≤ z) (mn : Mean v [z, 0 - z] arm t b) : ∀ m : Nat, Mean v [z + L * (m : Int), 0 - (z + L * (m : Int))] arm (t + L * (m : Int) * b) b
  | 0 => by
    rw [Int.natCast_zero, Int.mul_zero, Int.zero_mul, Int.add_zero, Int.add_zero]
    exact mn
  | m + 1 => by
    have L0 := cm.pos
    have lm : 0 ≤ L * (m : Int) := Int.mul_nonneg (by omega) (by omega)
    have ih := (Mean.pumps ok cm z1 z2 mn m).pump ok cm (by omega) (by omega)
    have e1 : z + L * ((m + 1 : Nat) : Int) = z + L * (m : Int) + L := by rw [show ((m + 1 : Nat) : Int) = (m : Int) + 1 by omega, Int.mul_add, Int.mul_one]; omega
    have e2 : t + L * ((m + 1 : Nat) : Int) * b = t + L * (m : Int) * b + L * b := by rw [show ((m + 1 : Nat) : Int) = (m : Int) + 1 by omega, Int.mul_add, Int.mul_one, Int.add_mul]; omega
    have e3 : 0 - (z + L * (m : Int) + L) = 0 - (z + L * (m : Int)) - L := by omega
    rw [e1, e2, e3]
    exact ih
end
theorem com_nar : Com (c3, c5) 15 := ⟨by decide, by decide, by decide, by decide⟩
theorem mean_6 : Mean (c3, c5) [10 ^ 30, 0 - 10 ^ 30] 0 (2 * 10 ^ 30 - 5) 2 := by
  have h := Mean.pumps ok_nar com_nar (show (c3, c5).1.p ≤ 10 by decide) (show (c3, c5).2.p ≤ 10 by decide) mean_3 66666666666666666666666666666
  have e1 : (10 : Int) + 15 * ((66666666666666666666666666666 : Nat) : Int) = 10 ^ 30 := by decide +kernel
  have e2 : (15 : Int) + 15 * ((66666666666666666666666666666 : Nat) : Int) * 2 = 2 * 10 ^ 30 - 5 := by decide +kernel
  rw [e1, e2] at h
  exact h
def w24 : Comb := ⟨24, [0, 5]⟩
def w23 : Comb := ⟨23, [1, 9, 20]⟩
theorem ok_w : Dv.Ok (w24, w23) := ⟨⟨by decide, by decide, by decide, by decide, by decide, by decide⟩, ⟨by decide, by decide, by decide, by decide, by decide, by decide⟩⟩
end PD

/-! PD42: a bound of means -/
namespace PD
open PySem PySem.Spec PyProof.Rows L2 Evl
theorem mean_bound2 {v : Dv} {ms : List Int} {arm t b : Int} (ok : v.Ok) (mn : Mean v ms arm t b) (mb : ∀ m ∈ ms, m.natAbs ≤ 10 ^ 42) (ml : ms.length ≤ 40) : t ≤ 10 ^ 60 := by
  obtain ⟨n, j, cy⟩ := cyc_ex (v := v) (ms := ms) (s := (0, arm)) ok
  have lt := cy.lt
  have n5 := cy.le ok
  have e := mn.eq 0 n j cy
  have h2 : ms.length * (10 ^ 42 + 48) ≤ 40 * (10 ^ 42 + 48) := Nat.mul_le_mul_right _ ml
  have hb : ∀ i, i ≤ 576 → (rp v ms (0, arm) i).1.natAbs ≤ 10 ^ 47 := fun i hi => by
    have h1 := (rp_bound ok mb (0, arm) i).1
    have h3 : i * (ms.length * (10 ^ 42 + 48)) ≤ 576 * (40 * (10 ^ 42 + 48)) := Nat.mul_le_mul hi h2
    have h4 : (rp v ms (0, arm) i).1.natAbs ≤ (0 : Int).natAbs + i * (ms.length * (10 ^ 42 + 48)) := h1
    omega
  have b1 := hb n n5
  have b2 := hb j (by omega)
  have r0 := cy.rise ok
  have k1 : t * 1 ≤ t * ((n - j : Nat) : Int) := Int.mul_le_mul_of_nonneg_left (by omega) mn.t0
  have k2 : b * ((rp v ms (0, arm) n).1 - (rp v ms (0, arm) j).1) ≤ 576 * ((rp v ms (0, arm) n).1 - (rp v ms (0, arm) j).1) := Int.mul_le_mul_of_nonneg_right mn.b5 (by omega)
  omega
end PD

/-! PD43: pumps of greater spans never raise less (mathematics) -/
namespace PD
open PySem PySem.Spec PyProof.Rows L2 Evl
theorem flo_up {c : Comb} (ok : c.Ok) {a b : Int} (h : a ≤ b) : flo c a ≤ flo c b := by
  obtain ⟨a1, a2, a3⟩ := flo_spec ok a
  obtain ⟨b1, b2, b3⟩ := flo_spec ok b
  by_cases y : flo c a ≤ flo c b
  · exact y
  · have := b3 (flo c a) (by omega) (by omega)
    rw [a2] at this; cases this
theorem flo_of {c : Comb} (ok : c.Ok) {a : Int} (h : caught c a = true) : flo c a = a := by
  obtain ⟨a1, a2, a3⟩ := flo_spec ok a
  by_cases y : flo c a < a
  · have := a3 a y (Int.le_refl _)
    rw [h] at this; cases this
  · omega
section
variable {v : Dv} {arm : Int}
theorem pump_eq (v : Dv) (arm h : Int) {z : Int} (z0 : 0 < z) : mvs v (h, arm) [z, -z] = (max (max h (flo v.2 (h - arm) + arm + z) - z) (flo v.1 (max h (flo v.2 (h - arm) + arm + z))), arm) := by
  have m1 : mv v (h, arm) z = (max h (flo v.2 (h - arm) + arm + z), arm + z) := by
    unfold mv
    rw [if_pos (show z > 0 by omega)]
    ext
    · show arm + z + max (h - arm - z) (flo v.2 (h - arm)) = _
      omega
    · rfl
  show mv v (mv v (h, arm) z) (-z) = _
  rw [m1]
  unfold mv
  rw [if_neg (show ¬ -z > 0 by omega)]
  ext
  · show max (_ + -z) _ = _
    rw [← Int.sub_eq_add_neg]
  · show arm + z + -z = arm
    omega
theorem pump_up (ok : v.Ok) {h z y : Int} (z0 : 0 < z) (zy : z ≤ y) (hh : held v (h, arm) = true) : (mvs v (h, arm) [z, -z]).1 ≤ (mvs v (h, arm) [y, -y]).1 := by
  rw [pump_eq v arm h z0, pump_eq v arm h (show 0 < y by omega)]
  have f2 := flo_le ok.2 (h - arm)
  have mono := flo_up ok.1 (show max h (flo v.2 (h - arm) + arm + z) ≤ max h (flo v.2 (h - arm) + arm + y) by omega)
  show max (max h (flo v.2 (h - arm) + arm + z) - z) (flo v.1 (max h (flo v.2 (h - arm) + arm + z))) ≤ max (max h (flo v.2 (h - arm) + arm + y) - y) (flo v.1 (max h (flo v.2 (h - arm) + arm + y)))
  unfold held at hh
  rcases Bool.or_eq_true_iff.mp hh with c1 | c2
  · have e1 : flo v.1 h = h := flo_of ok.1 c1
    have up1 := flo_up ok.1 (show h ≤ max h (flo v.2 (h - arm) + arm + y) by omega)
    omega
  · have e2 : flo v.2 (h - arm) = h - arm := flo_of ok.2 c2
    omega
theorem pump_rp_up (ok : v.Ok) {z y : Int} (z0 : 0 < z) (zy : z ≤ y) {h : Int} (hh : held v (h, arm) = true) : ∀ k : Nat, (rp v [z, -z] (h, arm) k).1 ≤ (rp v [y, -y] (h, arm) k).1
  | 0 => Int.le_refl _
  | k + 1 => by
    have ih := pump_rp_up ok z0 zy hh k
    have hz := rp_held ok [z, -z] hh k
    have e1 : (rp v [z, -z] (h, arm) k).2 = arm := by rw [rp_hand]; show arm + (k : Int) * (z + (-z + 0)) = arm; rw [show z + (-z + 0) = 0 by omega, Int.mul_zero, Int.add_zero]
    have e2 : (rp v [y, -y] (h, arm) k).2 = arm := by rw [rp_hand]; show arm + (k : Int) * (y + (-y + 0)) = arm; rw [show y + (-y + 0) = 0 by omega, Int.mul_zero, Int.add_zero]
    have w1 : rp v [z, -z] (h, arm) k = ((rp v [z, -z] (h, arm) k).1, arm) := by ext; rfl; exact e1
    have w2 : rp v [y, -y] (h, arm) k = ((rp v [y, -y] (h, arm) k).1, arm) := by ext; rfl; exact e2
    show (mvs v (rp v [z, -z] (h, arm) k) [z, -z]).1 ≤ (mvs v (rp v [y, -y] (h, arm) k) [y, -y]).1
    rw [w1] at hz
    rw [w1, w2]
    exact Int.le_trans (pump_up ok z0 zy hz) (mvs_mono ok [y, -y] ih rfl)
/-- a held height is there at each hand -/
theorem held_ex (ok : v.Ok) (arm : Int) : ∃ h, held v (h, arm) = true := by
  refine ⟨flo v.1 0, ?_⟩
  unfold held
  rw [show caught v.1 (flo v.1 0, arm).1 = true from (flo_spec ok.1 0).2.1, Bool.true_or]
/-- a longer span never has a smaller mean -/
theorem Mean.up (ok : v.Ok) {z y t b t' b' : Int} (z0 : 0 < z) (zy : z ≤ y) (m : Mean v [z, -z] arm t b) (m' : Mean v [y, -y] arm t' b') : t * b' ≤ t' * b := by
  obtain ⟨h, hh⟩ := held_ex ok arm
  obtain ⟨n, j, cy⟩ := cyc_ex (v := v) (ms := [z, -z]) (s := (h, arm)) ok
  obtain ⟨n', j', cy'⟩ := cyc_ex (v := v) (ms := [y, -y]) (s := (h, arm)) ok
  have lt := cy.lt
  have lt' := cy'.lt
  have le := pump_rp_up ok z0 zy hh
  have e1 := m.eq h n j cy
  have e2 := m'.eq h n' j' cy'
  generalize hr : (rp v [z, -z] (h, arm) n).1 - (rp v [z, -z] (h, arm) j).1 = r at e1
  generalize hr' : (rp v [y, -y] (h, arm) n').1 - (rp v [y, -y] (h, arm) j').1 = r' at e2
  -- behind many rounds
  have key : r * ((n' - j' : Nat) : Int) ≤ r' * ((n - j : Nat) : Int) := by
    apply Int.not_lt.mp
    intro gap
    obtain ⟨D, hD⟩ : ∃ D, (rp v [y, -y] (h, arm) (j + j')).1 - (rp v [z, -z] (h, arm) (j + j')).1 = D := ⟨_, rfl⟩
    have D0 : 0 ≤ D := by have := le (j + j'); omega
    have h1 := cy.many ok j' ((n' - j') * (D + 1).toNat)
    have h2 := cy'.many ok j ((n - j) * (D + 1).toNat)
    rw [hr] at h1
    rw [hr', show j' + j = j + j' from Nat.add_comm _ _, show j + j' + (n' - j') * ((n - j) * (D + 1).toNat) = j + j' + (n - j) * ((n' - j') * (D + 1).toNat) by rw [Nat.mul_left_comm]] at h2
    have l := le (j + j' + (n - j) * ((n' - j') * (D + 1).toNat))
    rw [h1, h2, Int.natCast_mul, Int.natCast_mul, show (((D + 1).toNat : Nat) : Int) = D + 1 by omega] at l
    have x1 : ((n' - j' : Nat) : Int) * (D + 1) * r = (D + 1) * (r * ((n' - j' : Nat) : Int)) := by rw [Int.mul_comm _ (D + 1), Int.mul_assoc, Int.mul_comm _ r]
    have x2 : ((n - j : Nat) : Int) * (D + 1) * r' = (D + 1) * (r' * ((n - j : Nat) : Int)) := by rw [Int.mul_comm _ (D + 1), Int.mul_assoc, Int.mul_comm _ r']
    rw [x1, x2] at l
    have g : (D + 1) * 1 ≤ (D + 1) * (r * ((n' - j' : Nat) : Int) - r' * ((n - j : Nat) : Int)) := Int.mul_le_mul_of_nonneg_left (by omega) (by omega)
    rw [Int.mul_sub] at g
    omega
  have p1 : 0 < ((n - j : Nat) : Int) := by omega
  have p2 : 0 < ((n' - j' : Nat) : Int) := by omega
  -- t l = b r, t' l' = b' r'
  have k1 : t * b' * (((n - j : Nat) : Int) * ((n' - j' : Nat) : Int)) ≤ t' * b * (((n - j : Nat) : Int) * ((n' - j' : Nat) : Int)) := by
    have a1 : t * b' * (((n - j : Nat) : Int) * ((n' - j' : Nat) : Int)) = b * b' * (r * ((n' - j' : Nat) : Int)) := by
      have : t * b' * (((n - j : Nat) : Int) * ((n' - j' : Nat) : Int)) = t * ((n - j : Nat) : Int) * (b' * ((n' - j' : Nat) : Int)) := by ac_rfl
      rw [this, e1]; ac_rfl
    have a2 : t' * b * (((n - j : Nat) : Int) * ((n' - j' : Nat) : Int)) = b * b' * (r' * ((n - j : Nat) : Int)) := by
      have : t' * b * (((n - j : Nat) : Int) * ((n' - j' : Nat) : Int)) = t' * ((n' - j' : Nat) : Int) * (b * ((n - j : Nat) : Int)) := by ac_rfl
      rw [this, e2]; ac_rfl
    rw [a1, a2]
    exact Int.mul_le_mul_of_nonneg_left key (Int.mul_nonneg (by have := m.b0; omega) (by have := m'.b0; omega))
  exact Int.le_of_mul_le_mul_right k1 (Int.mul_pos p1 p2)
end
end PD

/-! PD44: a pump raises by no more than its span, and by no less than it without the longest slacks (mathematics) -/
namespace PD
open PySem PySem.Spec PyProof.Rows L2 Evl
section
variable {v : Dv} {arm : Int}
theorem slk_in {cb : Comb} (ok : cb.Ok) (n : Int) : slk cb n ∈ sl cb := by
  have p0 := ok.p1
  have m0 := Int.emod_nonneg n (show cb.p ≠ 0 by omega)
  have m1 := Int.emod_lt_of_pos n (show 0 < cb.p by omega)
  refine List.mem_map.mpr ⟨(n % cb.p).toNat, List.mem_range.mpr (by omega), ?_⟩
  rw [show (((n % cb.p).toNat : Nat) : Int) = n % cb.p by omega]
  exact slk_mod ok n
theorem pump_rise (ok : v.Ok) {h z s1 s2 : Int} (z0 : 0 < z) (b1 : ∀ y ∈ sl v.1, y ≤ s1) (b2 : ∀ y ∈ sl v.2, y ≤ s2) : (mvs v (h, arm) [z, -z]).1 ≤ h + z ∧ h + z - s1 - s2 ≤ (mvs v (h, arm) [z, -z]).1 := by
  rw [pump_eq v arm h z0]
  have f2 := flo_le ok.2 (h - arm)
  have f1 := flo_le ok.1 (max h (flo v.2 (h - arm) + arm + z))
  have k2 := b2 _ (slk_in ok.2 (h - arm))
  have k1 := b1 _ (slk_in ok.1 (max h (flo v.2 (h - arm) + arm + z)))
  unfold slk at k1 k2
  show max (max h (flo v.2 (h - arm) + arm + z) - z) (flo v.1 (max h (flo v.2 (h - arm) + arm + z))) ≤ _ ∧ _ ≤ max (max h (flo v.2 (h - arm) + arm + z) - z) (flo v.1 (max h (flo v.2 (h - arm) + arm + z)))
  omega
theorem pump_rises (ok : v.Ok) {h z s1 s2 : Int} (z0 : 0 < z) (b1 : ∀ y ∈ sl v.1, y ≤ s1) (b2 : ∀ y ∈ sl v.2, y ≤ s2) (i : Nat) : ∀ k : Nat, (rp v [z, -z] (h, arm) (i + k)).1 ≤ (rp v [z, -z] (h, arm) i).1 + z * (k : Int) ∧ (rp v [z, -z] (h, arm) i).1 + (z - s1 - s2) * (k : Int) ≤ (rp v [z, -z] (h, arm) (i + k)).1
  | 0 => by
    rw [Int.natCast_zero, Int.mul_zero, Int.mul_zero, Nat.add_zero]
    omega
  | k + 1 => by
    obtain ⟨i1, i2⟩ := pump_rises (h := h) ok z0 b1 b2 i k
    have e1 : (rp v [z, -z] (h, arm) (i + k)).2 = arm := by rw [rp_hand]; show arm + ((i + k : Nat) : Int) * (z + (-z + 0)) = arm; rw [show z + (-z + 0) = 0 by omega, Int.mul_zero, Int.add_zero]
    have w1 : rp v [z, -z] (h, arm) (i + k) = ((rp v [z, -z] (h, arm) (i + k)).1, arm) := by ext; rfl; exact e1
    have q : rp v [z, -z] (h, arm) (i + (k + 1)) = mvs v ((rp v [z, -z] (h, arm) (i + k)).1, arm) [z, -z] := by rw [← w1]; rfl
    rw [q]
    obtain ⟨r1, r2⟩ := pump_rise (arm := arm) (h := (rp v [z, -z] (h, arm) (i + k)).1) ok z0 b1 b2
    rw [show ((k + 1 : Nat) : Int) = (k : Int) + 1 by omega, Int.mul_add, Int.mul_add, Int.mul_one, Int.mul_one]
    omega
theorem Mean.spans (ok : v.Ok) {z t b s1 s2 : Int} (z0 : 0 < z) (m : Mean v [z, -z] arm t b) (b1 : ∀ y ∈ sl v.1, y ≤ s1) (b2 : ∀ y ∈ sl v.2, y ≤ s2) : t ≤ z * b ∧ (z - s1 - s2) * b ≤ t := by
  obtain ⟨n, j, cy⟩ := cyc_ex (v := v) (ms := [z, -z]) (s := (0, arm)) ok
  have lt := cy.lt
  have e := m.eq 0 n j cy
  have p := pump_rises (arm := arm) (h := 0) ok z0 b1 b2 j (n - j)
  rw [show j + (n - j) = n by omega] at p
  have l0 : 0 < ((n - j : Nat) : Int) := by omega
  have b0 := m.b0
  constructor
  · apply Int.le_of_mul_le_mul_right _ l0
    rw [e, show z * b * ((n - j : Nat) : Int) = b * (z * ((n - j : Nat) : Int)) by ac_rfl]
    exact Int.mul_le_mul_of_nonneg_left (by omega) (by omega)
  · apply Int.le_of_mul_le_mul_right _ l0
    rw [e, show (z - s1 - s2) * b * ((n - j : Nat) : Int) = b * ((z - s1 - s2) * ((n - j : Nat) : Int)) by ac_rfl]
    exact Int.mul_le_mul_of_nonneg_left (by omega) (by omega)
theorem mean_ex (ok : v.Ok) (ms : List Int) (arm : Int) : ∃ t b, Mean v ms arm t b := by
  obtain ⟨n, j, cy⟩ := cyc_ex (v := v) (ms := ms) (s := (0, arm)) ok
  exact ⟨_, _, (cy.mean ok rfl rfl rfl).2.2⟩
end
end PD

/-! PD45: a mean above 0 is 1 at least (mathematics) -/
namespace PD
open PySem PySem.Spec PyProof.Rows L2 Evl
section
variable {v : Dv} {ms : List Int} {arm : Int}
theorem com_lcm (ok : v.Ok) : ∃ L, Com v L ∧ ∀ x : Int, x % v.1.p = 0 → x % v.2.p = 0 → x % L = 0 := by
  have p1 := ok.1.p1
  have p24 := ok.1.p24
  have q1 := ok.2.p1
  have q24 := ok.2.p24
  have e1 : ((v.1.p.natAbs : Nat) : Int) = v.1.p := by omega
  have e2 : ((v.2.p.natAbs : Nat) : Int) = v.2.p := by omega
  have pos : 0 < Nat.lcm v.1.p.natAbs v.2.p.natAbs := Nat.lcm_pos (by omega) (by omega)
  have le : Nat.lcm v.1.p.natAbs v.2.p.natAbs ≤ 24 * 24 := Nat.le_trans (Nat.le_of_dvd (Nat.mul_pos (by omega) (by omega)) (Nat.lcm_dvd_mul _ _)) (Nat.mul_le_mul (by omega) (by omega))
  refine ⟨((Nat.lcm v.1.p.natAbs v.2.p.natAbs : Nat) : Int), ⟨by omega, ?_, ?_, by omega⟩, fun x h1 h2 => ?_⟩
  · apply Int.emod_eq_zero_of_dvd
    rw [← e1]
    exact Int.ofNat_dvd.mpr (by rw [Int.natAbs_natCast]; exact Nat.dvd_lcm_left _ _)
  · apply Int.emod_eq_zero_of_dvd
    rw [← e2]
    exact Int.ofNat_dvd.mpr (by rw [Int.natAbs_natCast]; exact Nat.dvd_lcm_right _ _)
  · apply Int.emod_eq_zero_of_dvd
    apply Int.natAbs_dvd_natAbs.mp
    rw [Int.natAbs_natCast]
    exact Nat.lcm_dvd (Int.natAbs_dvd_natAbs.mpr (Int.dvd_of_emod_eq_zero h1)) (Int.natAbs_dvd_natAbs.mpr (Int.dvd_of_emod_eq_zero h2))
theorem Mean.one {t b : Int} (ok : v.Ok) (s0 : ms.sum = 0) (m : Mean v ms arm t b) (t0 : 0 < t) : b ≤ t := by
  obtain ⟨L, cm, lc⟩ := com_lcm ok
  obtain ⟨n, j, cy⟩ := cyc_ex (v := v) (ms := ms) (s := (0, arm)) ok
  have lt := cy.lt
  have e := m.eq 0 n j cy
  have nL := cy.leL ok s0 cm
  have hand : ∀ i, (rp v ms (0, arm) i).2 = arm := fun i => by rw [rp_hand, s0, Int.mul_zero, Int.add_zero]
  have eta : ∀ i, rp v ms (0, arm) i = ((rp v ms (0, arm) i).1, arm) := fun i => by ext; rfl; exact hand i
  have pe := cy.eq
  rw [eta j, eta n] at pe
  obtain ⟨y, hy⟩ := Int.dvd_of_emod_eq_zero (plc_apart lc pe)
  have l0 : 0 < ((n - j : Nat) : Int) := by omega
  have b0 := m.b0
  have L0 := cm.pos
  have rp0 : 0 < (rp v ms (0, arm) n).1 - (rp v ms (0, arm) j).1 := by
    apply Int.not_le.mp
    intro z
    have h1 : 0 < t * ((n - j : Nat) : Int) := Int.mul_pos t0 l0
    have h2 : b * ((rp v ms (0, arm) n).1 - (rp v ms (0, arm) j).1) ≤ b * 0 := Int.mul_le_mul_of_nonneg_left z (by omega)
    rw [Int.mul_zero] at h2
    omega
  have y1 : 1 ≤ y := by
    apply Int.not_lt.mp
    intro z
    have : L * y ≤ L * 0 := Int.mul_le_mul_of_nonneg_left (by omega) (by omega)
    rw [Int.mul_zero] at this
    omega
  have rL : L ≤ (rp v ms (0, arm) n).1 - (rp v ms (0, arm) j).1 := by
    have : L * 1 ≤ L * y := Int.mul_le_mul_of_nonneg_left y1 (by omega)
    omega
  apply Int.le_of_mul_le_mul_right _ l0
  rw [e]
  exact Int.mul_le_mul_of_nonneg_left (by omega) (by omega)
end
end PD

/-! PD46: a dict of numbers; a new list beside a value -/
namespace PD
open PySem PySem.Spec PyProof.Rows L2 Evl
theorem key_and {A B : Prop} (a : A) (b : A → B) : A ∧ B := ⟨a, b a⟩
/-- what a dict of numbers holds, as data -/
inductive RK (G : Hp) : List (Key × V) → List (Int × D) → Prop
  | nil : RK G [] []
  | cons {k : Int} {v : V} {d : D} {vs : List (Key × V)} {ks : List (Int × D)} (a : R G v d) (b : RK G vs ks) : RK G ((.inl k, v) :: vs) ((k, d) :: ks)
theorem RK.up {G G' : Hp} {vs : List (Key × V)} {ks : List (Int × D)} (h : RK G vs ks) (e : Ex G G') : RK G' vs ks := by
  induction h with
  | nil => exact .nil
  | cons a b ih => exact .cons (R.up a e) ih
theorem RK.len {G : Hp} {vs : List (Key × V)} {ks : List (Int × D)} (h : RK G vs ks) : vs.length = ks.length := by
  induction h with
  | nil => rfl
  | cons a b ih => rw [List.length_cons, List.length_cons, ih]
theorem RK.app {G : Hp} {vs : List (Key × V)} {ks : List (Int × D)} (h : RK G vs ks) {k : Int} {v : V} {d : D} (a : R G v d) : RK G (vs ++ [(.inl k, v)]) (ks ++ [(k, d)]) := by
  induction h with
  | nil => exact .cons a .nil
  | cons a b ih => exact .cons a ih
def look (ks : List (Int × D)) (k : Int) : Option D := (ks.find? fun kv => decide (kv.1 = k)).map (·.2)
theorem look_nil (k : Int) : look [] k = none := rfl
theorem look_cons (a : Int) (d : D) (ks : List (Int × D)) (k : Int) : look ((a, d) :: ks) k = if a = k then some d else look ks k := by
  unfold look
  rw [List.find?_cons]
  by_cases e : a = k
  · rw [if_pos e, show decide ((a, d).1 = k) = true from decide_eq_true e]; rfl
  · rw [if_neg e, show decide ((a, d).1 = k) = false from decide_eq_false e]
theorem valV_cons' (a : Key) (v : V) (vs : List (Key × V)) (k : Key) : valV ((a, v) :: vs) k = if a = k then some v else valV vs k := by
  unfold valV
  rw [List.find?_cons]
  by_cases e : a = k
  · rw [if_pos e, show decide ((a, v).1 = k) = true from decide_eq_true e]; rfl
  · rw [if_neg e, show decide ((a, v).1 = k) = false from decide_eq_false e]
theorem RK.some {G : Hp} {vs : List (Key × V)} {ks : List (Int × D)} (h : RK G vs ks) {k : Int} {d : D} : look ks k = some d → ∃ v, valV vs (.inl k) = some v ∧ R G v d := by
  induction h with
  | nil => intro z; cases z
  | @cons k' v d' vs ks a b ih =>
    rw [look_cons, valV_cons']
    by_cases e : k' = k
    · rw [if_pos e, if_pos (by rw [e])]
      intro z
      cases z
      exact ⟨v, rfl, a⟩
    · rw [if_neg e, if_neg (fun z => e (Sum.inl.inj z))]
      exact ih
theorem RK.none {G : Hp} {vs : List (Key × V)} {ks : List (Int × D)} (h : RK G vs ks) {k : Int} : look ks k = none → valV vs (.inl k) = none := by
  induction h with
  | nil => intro z; rfl
  | @cons k' v d' vs ks a b ih =>
    rw [look_cons, valV_cons']
    by_cases e : k' = k
    · rw [if_pos e]
      intro z
      cases z
    · rw [if_neg e, if_neg (fun z => e (Sum.inl.inj z))]
      exact ih
theorem putK_new {κ : Type} [DecidableEq κ] (kvs : List (κ × V)) (k : κ) (x : V) (h : valV kvs k = none) : putK kvs k x = kvs ++ [(k, x)] := by
  unfold putK
  rw [if_neg]
  intro z
  obtain ⟨kv, h1, h2⟩ := List.any_eq_true.mp z
  unfold valV at h
  cases e : kvs.find? fun kv => decide (kv.1 = k) with
  | some y => rw [e] at h; cases h
  | none =>
    have := List.find?_eq_none.mp e kv h1
    exact this h2
/-- a list of n keys and values, told by a function -/
def tab (n : Nat) (f : Nat → Int × D) : List (Int × D) := (List.range n).map f
theorem tab_succ (n : Nat) (f : Nat → Int × D) : tab (n + 1) f = tab n f ++ [f n] := by unfold tab; rw [List.range_succ, List.map_append]; rfl
theorem tab_len (n : Nat) (f : Nat → Int × D) : (tab n f).length = n := by unfold tab; rw [List.length_map, List.length_range]
theorem look_app (ks ls : List (Int × D)) (k : Int) : look (ks ++ ls) k = match look ks k with | some d => some d | none => look ls k := by
  induction ks with
  | nil => rfl
  | cons a ks ih =>
    obtain ⟨a, d⟩ := a
    rw [List.cons_append, look_cons, look_cons, ih]
    by_cases e : a = k
    · rw [if_pos e]; rw [if_pos e]
    · rw [if_neg e, if_neg e]
theorem look_tab (f : Nat → Int × D) (k : Int) : ∀ n : Nat, (look (tab n f) k = none ∧ ∀ i, i < n → (f i).1 ≠ k) ∨ ∃ i, i < n ∧ (f i).1 = k ∧ look (tab n f) k = some (f i).2
  | 0 => .inl ⟨rfl, fun i h => absurd h (Nat.not_lt_zero i)⟩
  | n + 1 => by
    rw [tab_succ, look_app]
    rcases look_tab f k n with ⟨h1, h2⟩ | ⟨i, h1, h2, h3⟩
    · rw [h1]
      show (look [((f n).1, (f n).2)] k = .none ∧ _) ∨ _
      by_cases e : (f n).1 = k
      · refine .inr ⟨n, Nat.lt_succ_self n, e, ?_⟩
        show look [((f n).1, (f n).2)] k = _
        rw [look_cons, if_pos e]
      · refine .inl ⟨by rw [look_cons, if_neg e]; rfl, fun i hi => ?_⟩
        rcases Nat.lt_succ_iff_lt_or_eq.mp hi with z | z
        · exact h2 i z
        · rw [z]; exact e
    · rw [h3]
      exact .inr ⟨i, Nat.lt_succ_of_lt h1, h2, rfl⟩
theorem com_quot {v : Dv} (ok : v.Ok) : 0 < ((Nat.gcd v.1.p.natAbs v.2.p.natAbs : Nat) : Int) ∧ ((Nat.gcd v.1.p.natAbs v.2.p.natAbs : Nat) : Int) < 2 ^ 200 ∧ v.1.p * v.2.p / ((Nat.gcd v.1.p.natAbs v.2.p.natAbs : Nat) : Int) = ((Nat.lcm v.1.p.natAbs v.2.p.natAbs : Nat) : Int) ∧ Com v (v.1.p * v.2.p / ((Nat.gcd v.1.p.natAbs v.2.p.natAbs : Nat) : Int)) ∧ ∀ x : Int, x % v.1.p = 0 → x % v.2.p = 0 → x % (v.1.p * v.2.p / ((Nat.gcd v.1.p.natAbs v.2.p.natAbs : Nat) : Int)) = 0 := by
  have p1 := ok.1.p1
  have p24 := ok.1.p24
  have q1 := ok.2.p1
  have q24 := ok.2.p24
  have big : (25 : Int) < 2 ^ 200 := by decide +kernel
  have e1 : ((v.1.p.natAbs : Nat) : Int) = v.1.p := by omega
  have e2 : ((v.2.p.natAbs : Nat) : Int) = v.2.p := by omega
  have g0 : 0 < Nat.gcd v.1.p.natAbs v.2.p.natAbs := Nat.gcd_pos_of_pos_left _ (by omega)
  have g1 : Nat.gcd v.1.p.natAbs v.2.p.natAbs ≤ v.1.p.natAbs := Nat.le_of_dvd (by omega) (Nat.gcd_dvd_left _ _)
  have pos : 0 < Nat.lcm v.1.p.natAbs v.2.p.natAbs := Nat.lcm_pos (by omega) (by omega)
  have le : Nat.lcm v.1.p.natAbs v.2.p.natAbs ≤ 24 * 24 := Nat.le_trans (Nat.le_of_dvd (Nat.mul_pos (by omega) (by omega)) (Nat.lcm_dvd_mul _ _)) (Nat.mul_le_mul (by omega) (by omega))
  have e : v.1.p * v.2.p / ((Nat.gcd v.1.p.natAbs v.2.p.natAbs : Nat) : Int) = ((Nat.lcm v.1.p.natAbs v.2.p.natAbs : Nat) : Int) := by
    have : ((v.1.p.natAbs * v.2.p.natAbs / Nat.gcd v.1.p.natAbs v.2.p.natAbs : Nat) : Int) = v.1.p * v.2.p / ((Nat.gcd v.1.p.natAbs v.2.p.natAbs : Nat) : Int) := by
      rw [Int.natCast_ediv, Int.natCast_mul, e1, e2]
    rw [← this]
    rfl
  refine ⟨by omega, by omega, e, ?_⟩
  rw [e]
  refine ⟨⟨by omega, ?_, ?_, by omega⟩, fun x h1 h2 => ?_⟩
  · apply Int.emod_eq_zero_of_dvd
    rw [← e1]
    exact Int.ofNat_dvd.mpr (by rw [Int.natAbs_natCast]; exact Nat.dvd_lcm_left _ _)
  · apply Int.emod_eq_zero_of_dvd
    rw [← e2]
    exact Int.ofNat_dvd.mpr (by rw [Int.natAbs_natCast]; exact Nat.dvd_lcm_right _ _)
  · apply Int.emod_eq_zero_of_dvd
    apply Int.natAbs_dvd_natAbs.mp
    rw [Int.natAbs_natCast]
    exact Nat.lcm_dvd (Int.natAbs_dvd_natAbs.mpr (Int.dvd_of_emod_eq_zero h1)) (Int.natAbs_dvd_natAbs.mpr (Int.dvd_of_emod_eq_zero h2))
section
variable {c : Cn} {K : PySem.W.Frag} {ds : DS} {pl : List D} {t u body : TS} {D' : Ends} {G0 : Hp} {E : EE} {Φ : W → List D → Prop} {te tk tv : TE} {tr : TA}
/-- x, d, y = e, {}, n -/
theorem wsk_par3K {i j l : Nat} {n : Int} (h : WE c te ds pl (isD fun x p1 => ∀ p, Fresh c (one p (.dK [])) → WSK (c.pinP (one p (.dK []))) u (((ds.set i (some (.d x))).set j (some (.v (.ref p)))).set l (some (.d (.int n)))) p1 D' G0)) :
    WSK c (tSeq (tPar3 i j l (tCons te (tCons tDNewK (tCons (tC (.int n)) tNil)))) u) ds pl D' G0 := fun G σ H hs e => by
  refine h G σ H hs _ ?_
  rintro v G1 H1 w p1 h1 e1 f1 g1
  match w, f1, g1 with
  | .d x, f1, g1 =>
    intro p hp
    have n1 := h1.none_of hp
    have F : Fresh c (one p (.dK [])) := fun b o q => by
      obtain ⟨rfl, rfl⟩ := one_some q
      exact ⟨n1.2.2.2.2, n1.2.2.1, n1.2.1, n1.2.2.2.1⟩
    refine ⟨v, .ref p, .int n, rfl, ?_⟩
    have hx := h1.set (i := i) (w := .d x) f1 fun xs z => by cases z
    refine g1 p F G1 _ _ (((hx.pinNew (Ex.new hp) fun b o q => ?_).setV j (.ref p)).set (w := .d (.int n)) (R.int n) fun xs z => by cases z) (e.trans e1)
    obtain ⟨rfl, rfl⟩ := one_some q
    exact ⟨upd_same, hp⟩
/-- a, b = e, [] -/
theorem ws_parEO {i j : Nat} (h : WE c te ds pl (isD fun x p1 => E.nx ((ds.set i (some (.d x))).set j (some (.o []))) p1)) : WS c (tPar i j (tCons te (tCons (tLst tNil) tNil))) ds pl E := fun G σ H hs D' f => by
  refine h G σ H hs _ ?_
  rintro v G1 H1 w p1 h1 e1 f1 g1
  match w, f1, g1 with
  | .d x, f1, g1 =>
    refine ⟨Nat.zero_le _, fun p hp => ⟨v, _, rfl, ?_⟩⟩
    exact f.nx G1 _ _ _ p1 ((h1.set (i := i) (w := .d x) f1 fun xs z => by cases z).newO hp .nil j) e1 g1
/-- while k not in seen: seen[k] = x; .. -/
theorem wsk_while_dk {id : Nat} {p : Addr} (I : Nat → List (Int × D) → DS → List D → Prop) (m0 : Nat) (F : Fresh c (one p (.dK []))) (h0 : I m0 [] ds pl)
    (step : ∀ m kvs ds' pl', I m kvs ds' pl' → ds'[id]? = some (some (.v (.ref p))) ∧ ∃ k : Int, (∀ P, Fresh c P → WE (c.pinP P) tk ds' pl' fun w p1 => w = .d (.int k) ∧ p1 = pl') ∧
      (∀ d, look kvs k = some d → ∀ G1 vs, Ex G0 G1 → RK G1 vs kvs → Fresh c (one p (.dK vs)) → WSK (c.pinP (one p (.dK vs))) u ds' pl' D' G1) ∧
      (look kvs k = none → kvs.length < sizeLine ∧ ∃ d, (∀ P, Fresh c P → WE (c.pinP P) tv ds' pl' fun w p1 => w = .d d ∧ p1 = pl') ∧
        ∀ P, Fresh c P → WS (c.pinP P) body ds' pl' (onlyNx fun ds2 pl2 => ∃ m', m' < m ∧ I m' (kvs ++ [(k, d)]) ds2 pl2))) :
    WSK (c.pinP (one p (.dK []))) (tSeq (tWhile (tB (tDNotIn tk (tVar id))) (tSeq (sDPut (tVar id) tk tv) body)) u) ds pl D' G0 := fun G σ H hs e0 =>
  ⟨fun m σ' H' => ∃ G' ds' pl' kvs vs, Fresh c (one p (.dK vs)) ∧ HS (c.pinP (one p (.dK vs))) G' σ' H' ds' pl' ∧ Ex G0 G' ∧ RK G' vs kvs ∧ I m kvs ds' pl', ⟨m0, G, ds, pl, [], [], F, hs, e0, .nil, h0⟩, by
    rintro m σ' H' ⟨G', ds', pl', kvs, vs, F1, h1, e1, rk, g1⟩
    obtain ⟨q1, k, qk, q4, q5⟩ := step m kvs ds' pl' g1
    refine qk _ F1 G' σ' H' h1 _ ?_
    rintro v G2 H2 w p2 h2 e2 f2 ⟨rfl, rfl⟩
    have hv : v = .int k := by cases f2; rfl
    subst hv
    obtain ⟨z1, z2⟩ := dict_at h2 q1 one_at
    have rk2 := rk.up e2
    refine ⟨_, z1, p, valV vs (.inl k), rfl, DGet.k (k := .inl k) z2, !(valV vs (.inl k)).isSome, rfl, ?_⟩
    cases hl : look kvs k with
    | some d =>
      obtain ⟨x, hx, rx⟩ := rk2.some hl
      rw [hx]
      exact q4 d hl G2 vs (e1.trans e2) rk2 F1 G2 σ' H2 h2 (Ex.refl _)
    | none =>
      rw [rk2.none hl]
      obtain ⟨l1, d, qv, w1⟩ := q5 hl
      refine ⟨fun σ3 H3 => ∃ m', m' < m ∧ ∃ G' ds' pl' kvs vs, Fresh c (one p (.dK vs)) ∧ HS (c.pinP (one p (.dK vs))) G' σ3 H3 ds' pl' ∧ Ex G0 G' ∧ RK G' vs kvs ∧ I m' kvs ds' pl', fun σ3 H3 ⟨m', l, q⟩ => ⟨m', l, q⟩, ?_⟩
      refine qv _ F1 G2 σ' H2 h2 _ ?_
      rintro x G3 H3 w p3 h3 e3 f3 ⟨rfl, rfl⟩
      obtain ⟨y1, y2⟩ := dict_at h3 q1 one_at
      refine ⟨_, y1, ?_⟩
      refine qk _ F1 G3 σ' H3 h3 _ ?_
      rintro v G4 H4 w p4 h4 e4 f4 ⟨rfl, rfl⟩
      have hv : v = .int k := by cases f4; rfl
      subst hv
      obtain ⟨x1, x2⟩ := dict_at h4 q1 one_at
      have rk4 := rk2.up (e3.trans e4)
      refine ⟨p, _, rfl, DPut.k (k := .inl k) x2 (by rw [rk.len]; exact l1), ?_⟩
      obtain ⟨F2, h5⟩ := h4.repin (o' := .dK (putK vs (.inl k) x)) F1 one_at
      rw [one_upd] at F2 h5
      rw [putK_new _ _ _ (rk4.none hl)] at F2 h5 ⊢
      have rk5 : RK G4 (vs ++ [(.inl k, x)]) (kvs ++ [(k, d)]) := rk4.app (R.up f3 e4)
      refine w1 _ F2 G4 σ' _ h5 _ ⟨?_, ?_, ?_, ?_⟩
      · exact fun G6 σ6 H6 ds6 pl6 h6 e6 ⟨m', l, g6⟩ => ⟨m', l, G6, ds6, pl6, _, _, F2, h6, e1.trans (e2.trans (e3.trans (e4.trans e6))), rk5.up e6, g6⟩
      · exact fun _ _ _ _ _ _ _ _ _ _ w => w.elim
      · exact fun _ _ _ _ _ _ _ w => w.elim
      · exact fun _ _ _ _ _ _ _ w => w.elim⟩
/-- a, b = seen[k] -/
theorem wsk_dget2 {id i j n : Nat} {p : Addr} {vs : List (Key × V)} {kvs : List (Int × D)} {k : Int} {x y : D} (hn : n = 2) (rk : RK G0 vs kvs) (hid : ds[id]? = some (some (.v (.ref p))))
    (hk : WE (c.pinP (one p (.dK vs))) tk ds pl fun w p1 => w = .d (.int k) ∧ p1 = pl) (hl : look kvs k = some (.tuple [x, y]))
    (h : WSK (c.pinP (one p (.dK vs))) u ((ds.set i (some (.d x))).set j (some (.d y))) pl D' G0) :
    WSK (c.pinP (one p (.dK vs))) (tSeq (tAsg (tDGet (tVar id) tk) (gTup K n (gCons (gName i) (gCons (gName j) gNil)))) u) ds pl D' G0 := fun G σ H hs e => by
  subst hn
  obtain ⟨z1, z2⟩ := dict_at hs hid one_at
  refine ⟨_, z1, ?_⟩
  refine hk G σ H hs _ ?_
  rintro v G2 H2 w p2 h2 e2 f2 ⟨rfl, rfl⟩
  have hv : v = .int k := by cases f2; rfl
  subst hv
  obtain ⟨y1, y2⟩ := dict_at h2 hid one_at
  obtain ⟨x0, hx, rx⟩ := (rk.up (e.trans e2)).some hl
  have g := DGet.k (k := .inl k) y2
  rw [hx] at g
  refine ⟨p, x0, rfl, g, ?_⟩
  cases rx with
  | tup a b =>
    cases b with
    | cons r1 b =>
      cases b with
      | cons r2 b =>
        cases b
        refine ⟨_, _, rfl, SqT.of (h2.sub _ _ a), rfl, _, _, rfl, _, _, rfl, rfl, ?_⟩
        exact h G2 _ H2 ((h2.set (w := .d x) r1 fun xs z => by cases z).set (w := .d y) r2 fun xs z => by cases z) (e.trans e2)
end
theorem climb_uniq {v : Dv} (ok : v.Ok) {palm w u : Int} (w0 : 1 ≤ w) (wa : ∀ t b, Mean v [w, -w] palm t b → 0 < t) (wb : ∀ z, 1 ≤ z → z < w → ∀ t b, Mean v [z, -z] palm t b → t = 0)
    (u0 : 1 ≤ u) (ua : ∀ t b, Mean v [u, -u] palm t b → 0 < t) (ub : ∀ z, 1 ≤ z → z < u → ∀ t b, Mean v [z, -z] palm t b → t = 0) : w = u := by
  rcases Int.lt_trichotomy w u with h | h | h
  · obtain ⟨t, b, m⟩ := mean_ex ok [w, -w] palm
    have h1 := wa t b m
    have h2 := ub w w0 h t b m
    omega
  · exact h
  · obtain ⟨t, b, m⟩ := mean_ex ok [u, -u] palm
    have h1 := ua t b m
    have h2 := wb u u0 h t b m
    omega
theorem climb_is {v : Dv} (ok : v.Ok) {palm w x : Int} (x0 : 1 ≤ x) (lo : x = 1 ∨ ∃ b, Mean v [x - 1, -(x - 1)] palm 0 b) (hi : ∃ t b, Mean v [x, -x] palm t b ∧ 0 < t)
    (w0 : 1 ≤ w) (wa : ∀ t b, Mean v [w, -w] palm t b → 0 < t) (wb : ∀ z, 1 ≤ z → z < w → ∀ t b, Mean v [z, -z] palm t b → t = 0) : w = x := by
  rcases Int.lt_trichotomy w x with h | h | h
  · rcases lo with rfl | ⟨b', m'⟩
    · omega
    obtain ⟨t, b, m⟩ := mean_ex ok [w, -w] palm
    have h1 := wa t b m
    have h2 := Mean.up ok (show 0 < w by omega) (show w ≤ x - 1 by omega) m m'
    have h3 := Int.mul_pos h1 m'.b0
    rw [Int.zero_mul] at h2
    omega
  · exact h
  · obtain ⟨t, b, m, t0⟩ := hi
    have := wb x x0 h t b m
    omega
abbrev c01 : Comb := ⟨1, [0]⟩
theorem ok_c01 : c01.Ok := ⟨by decide, by decide, by decide, by decide, by decide, by decide⟩
theorem ok_one : Dv.Ok (c01, c01) := ⟨ok_c01, ok_c01⟩
theorem mean_a1 : Mean (c103, c10) [7, -7] 0 0 1 := Mean.of ok_wide cyc_3 (by decide +kernel)
theorem cyc_b2 : Cyc (c103, c10) [9, -9] (0, 0) 2 1 := cyc_of (by decide) (by decide +kernel) (by decide +kernel)
theorem mean_a2 : Mean (c103, c10) [9, -9] 0 0 1 := Mean.of ok_wide cyc_b2 (by decide +kernel)
theorem cyc_b3 : Cyc (c103, c10) [10, -10] (0, 0) 1 0 := cyc_of (by decide) (by decide +kernel) (by decide +kernel)
theorem mean_a3 : Mean (c103, c10) [10, -10] 0 10 1 := Mean.of ok_wide cyc_b3 (by decide +kernel)
theorem cyc_b4 : Cyc (c103, c10) [20, -20] (0, 0) 1 0 := cyc_of (by decide) (by decide +kernel) (by decide +kernel)
theorem mean_a4 : Mean (c103, c10) [20, -20] 0 20 1 := Mean.of ok_wide cyc_b4 (by decide +kernel)
theorem cyc_b5 : Cyc (c01, c01) [1, -1] (0, 7) 1 0 := cyc_of (by decide) (by decide +kernel) (by decide +kernel)
theorem mean_a5 : Mean (c01, c01) [1, -1] 7 1 1 := Mean.of ok_one cyc_b5 (by decide +kernel)
end PD

/-! PD47: gaps, mirrored means, chains over what a call tells -/
namespace PD
open PySem PySem.Spec PyProof.Rows L2 Evl
theorem gap_slk {c : Comb} (ok : c.Ok) {t0 : Int} {r0 : List Int} (et : c.ts = t0 :: r0) {g : Int} (h : ∀ (i : Nat) (t f : Int), c.ts[i]? = some t → (c.ts.tail ++ [t0 + c.p])[i]? = some f → f - t ≤ g) (n : Int) : slk c n ≤ g - 1 := by
  have p1 := ok.p1
  have sp := flo_spec ok n
  have hc : flo c n % c.p ∈ c.ts := of_decide_eq_true sp.2.1
  obtain ⟨i, hi⟩ := List.mem_iff_getElem?.mp hc
  have hlt := (List.getElem?_eq_some_iff.mp hi).1
  have hl : (c.ts.tail ++ [t0 + c.p]).length = c.ts.length := by rw [List.length_append, List.length_tail]; show c.ts.length - 1 + 1 = _; omega
  obtain ⟨f, hf⟩ : ∃ f, (c.ts.tail ++ [t0 + c.p])[i]? = some f := ⟨_, List.getElem?_eq_getElem (by rw [hl]; exact hlt)⟩
  have hg := h i _ f hi hf
  have ed := Int.mul_ediv_add_emod (flo c n) c.p
  have key : caught c (flo c n - flo c n % c.p + f) = true ∧ flo c n % c.p < f := by
    by_cases z : i + 1 < c.ts.length
    · have e : c.ts[i + 1]? = some f := by
        rw [List.getElem?_append_left (by rw [List.length_tail]; omega), ← List.drop_one, List.getElem?_drop, Nat.add_comm] at hf
        exact hf
      have h1 := asc_next ok.up hi e
      have fm := List.mem_of_getElem? e
      have h2 := ok.low f fm
      have h3 := ok.high f fm
      refine ⟨?_, h1⟩
      unfold caught
      rw [show flo c n - flo c n % c.p + f = f + c.p * (flo c n / c.p) by omega, Int.add_mul_emod_self_left, Int.emod_eq_of_lt h2 h3]
      exact decide_eq_true fm
    · have e : f = t0 + c.p := by
        rw [List.getElem?_append_right (by rw [List.length_tail]; omega), show i - c.ts.tail.length = 0 by rw [List.length_tail]; omega] at hf
        exact (Option.some.inj hf).symm
      have tm : t0 ∈ c.ts := by rw [et]; exact List.mem_cons_self
      have h2 := ok.low t0 tm
      have h3 := ok.high t0 tm
      have m1 := Int.emod_lt_of_pos (flo c n) (show 0 < c.p by omega)
      refine ⟨?_, by omega⟩
      unfold caught
      rw [show flo c n - flo c n % c.p + f = t0 + c.p * (flo c n / c.p + 1) by rw [Int.mul_add, Int.mul_one]; omega, Int.add_mul_emod_self_left, Int.emod_eq_of_lt h2 h3]
      exact decide_eq_true tm
  unfold slk
  rcases Int.lt_or_le (g - 1) (n - flo c n) with z | z
  · exfalso
    have := sp.2.2 (flo c n - flo c n % c.p + f) (by omega) (by omega)
    rw [key.1] at this
    cases this
  · exact z
theorem sl_slk {c : Comb} {s : Int} (h : ∀ n, slk c n ≤ s) : ∀ y ∈ sl c, y ≤ s := fun y hy => by
  obtain ⟨r, _, rfl⟩ := List.mem_map.mp hy
  exact h _
theorem Mean.mirror {v : Dv} (ok : v.Ok) {ms : List Int} {arm t b : Int} (s0 : ms.sum = 0) (h : ∀ m ∈ ms, m ≠ 0) (m : Mean v ms arm t b) : Mean (v.2, v.1) (ms.map fun x => 0 - x) (-arm) t b := by
  obtain ⟨n, j, cy⟩ := cyc_ex (v := v) (ms := ms) (s := (0, arm)) ok
  have ok2 : Dv.Ok (v.2, v.1) := ⟨ok.2, ok.1⟩
  have cm : Cyc (v.2, v.1) (ms.map fun x => 0 - x) (0 - arm, -arm) n j := cyc_mirror h cy
  have hr : ∀ k, (rp (v.2, v.1) (ms.map fun x => 0 - x) (0 - arm, -arm) k).1 = (rp v ms (0, arm) k).1 - arm := fun k => by
    have e := congrArg Prod.fst (rp_mirror (v := v) (0, arm) h k)
    have e2 : (rp v ms (0, arm) k).2 = arm := by rw [rp_hand, s0, Int.mul_zero, Int.add_zero]
    rw [e2] at e
    exact e
  obtain ⟨g0, g5, mn⟩ := cy.mean ok rfl rfl rfl
  obtain ⟨_, _, mn2⟩ := cm.mean ok2 (r := (rp v ms (0, arm) n).1 - (rp v ms (0, arm) j).1) (by rw [hr, hr]; omega) rfl rfl
  obtain ⟨e1, e2⟩ := m.uniq ok mn
  rw [e1, e2]
  exact mn2
theorem frac_uniq {t b t' b' : Int} (b0 : 0 < b) (b0' : 0 < b') (low : Nat.gcd t.natAbs b.natAbs = 1) (low' : Nat.gcd t'.natAbs b'.natAbs = 1) (k1 : t * b' = t' * b) : t = t' ∧ b = b' := by
  have kn : t.natAbs * b'.natAbs = t'.natAbs * b.natAbs := by rw [← Int.natAbs_mul, ← Int.natAbs_mul, k1]
  have d1 : b.natAbs ∣ b'.natAbs := by
    have c1 : Nat.Coprime b.natAbs t.natAbs := (Nat.gcd_comm _ _).trans low
    refine c1.dvd_of_dvd_mul_left ?_
    rw [kn]; exact Nat.dvd_mul_left _ _
  have d2 : b'.natAbs ∣ b.natAbs := by
    have c1 : Nat.Coprime b'.natAbs t'.natAbs := (Nat.gcd_comm _ _).trans low'
    refine c1.dvd_of_dvd_mul_left ?_
    rw [← kn]; exact Nat.dvd_mul_left _ _
  have eb := Nat.dvd_antisymm d1 d2
  have eb' : b = b' := by omega
  subst eb'
  exact ⟨Int.eq_of_mul_eq_mul_right (by omega) k1, rfl⟩
theorem for_is {v : Dv} (ok : v.Ok) {palm wide high low told : Int} (m : Mean v [wide, -wide] palm high low) (w1 : 1 ≤ wide) (t1 : 1 ≤ told) (ha : ∀ t b, Mean v [told, -told] palm t b → high * b ≤ t * low)
    (hb : ∀ z, 1 ≤ z → z < told → ∀ t b, Mean v [z, -z] palm t b → t * low < high * b) : told ≤ wide ∧ ∀ t b, Mean v [told, -told] palm t b → t = high ∧ b = low := by
  have le : told ≤ wide := by
    rcases Int.lt_or_le wide told with z | z
    · have := hb wide w1 z high low m
      omega
    · exact z
  refine ⟨le, fun t b m' => ?_⟩
  have h1 := ha t b m'
  have h2 := Mean.up ok (show 0 < told by omega) le m' m
  exact frac_uniq m'.b0 m.b0 m'.low m.low (by omega)
theorem climb_le {v : Dv} (ok : v.Ok) {palm w s1 s2 : Int} (b1 : ∀ y ∈ sl v.1, y ≤ s1) (b2 : ∀ y ∈ sl v.2, y ≤ s2) (wb : ∀ z, 1 ≤ z → z < w → ∀ t b, Mean v [z, -z] palm t b → t = 0) : w ≤ max 1 (s1 + s2 + 1) := by
  rcases Int.lt_or_le (max 1 (s1 + s2 + 1)) w with z | z
  · exfalso
    obtain ⟨y, hy⟩ : ∃ y : Int, max 1 (s1 + s2 + 1) = y := ⟨_, rfl⟩
    rw [hy] at z
    have y1 : 1 ≤ y := by omega
    obtain ⟨t, b, m⟩ := mean_ex ok [y, -y] palm
    have e := wb y y1 z t b m
    have h1 := (m.spans ok (by omega) b1 b2).2
    have b0 := m.b0
    have h2 : 1 * b ≤ (y - s1 - s2) * b := Int.mul_le_mul_of_nonneg_right (by omega) (by omega)
    omega
  · exact z
/-- a <= b <= c of numbers, b told by a call -/
theorem we_chainG {c : Cn} {ds : DS} {pl : List D} {Φ : W → List D → Prop} {ta tb tc : TE} {a c' : Int} (h1 : WE c ta ds pl fun w p => w = .d (.int a) ∧ p = pl) (h3 : WE c tc ds pl fun w p => w = .d (.int c') ∧ p = pl)
    (h2 : WE c tb ds pl (isI fun b p => p = pl ∧ Φ (.d (.bool (decide (a ≤ b) && decide (b ≤ c')))) pl)) : WE c (tChain (rI0 fun i j => .bl (decide (i ≤ j))) (rI0 fun i j => .bl (decide (i ≤ j))) ta tb tc) ds pl Φ := fun G σ H hs Q q => by
  refine h1 G σ H hs _ ?_
  rintro v1 G1 H1 w1 p1 hs1 e1 f1 ⟨rfl, rfl⟩
  cases f1
  refine h2 G1 σ H1 hs1 _ ?_
  rintro v2 G2 H2 w2 p2 hs2 e2 f2 g2
  match w2, f2, g2 with
  | .d (.int b), f2, ⟨ep, h⟩ =>
    subst ep
    cases f2
    refine ⟨a, b, rfl, rfl, _, rfl, ?_⟩
    by_cases z : a ≤ b
    · have z' : decide (a ≤ b) = true := decide_eq_true z
      rw [z'] at h
      simp only [z', if_true]
      refine h3 G2 σ H2 hs2 _ ?_
      rintro v3 G3 H3 w3 p3 hs3 e3 f3 ⟨rfl, rfl⟩
      cases f3
      exact ⟨b, c', rfl, rfl, q _ G3 H3 (.d _) _ hs3 (e1.trans (e2.trans e3)) (R.bl _) h⟩
    · have z' : decide (a ≤ b) = false := decide_eq_false z
      rw [z'] at h
      simp only [z']
      exact q _ G2 H2 (.d (.bool false)) _ hs2 (e1.trans e2) (R.bl _) h
end PD

/-! PD48: spans for fractions -/
namespace PD
open PySem PySem.Spec PyProof.Rows L2 Evl
theorem slk_24 {c : Comb} (ok : c.Ok) : ∀ y ∈ sl c, y ≤ c.p - 1 := sl_slk fun n => by have := slk_lt ok n; omega
theorem Mean.le_span {v : Dv} (ok : v.Ok) {z arm t b : Int} (z0 : 0 < z) (m : Mean v [z, -z] arm t b) : t ≤ z * b ∧ (z - 46) * b ≤ t := by
  have h := m.spans ok z0 (slk_24 ok.1) (slk_24 ok.2)
  have p1 := ok.1.p24
  have p2 := ok.2.p24
  have b0 := m.b0
  refine ⟨h.1, Int.le_trans (Int.mul_le_mul_of_nonneg_right ?_ (by omega)) h.2⟩
  omega
theorem for_uniq {v : Dv} (ok : v.Ok) {palm high low w u : Int} (w1 : 1 ≤ w) (wa : ∀ t b, Mean v [w, -w] palm t b → high * b ≤ t * low) (wb : ∀ z, 1 ≤ z → z < w → ∀ t b, Mean v [z, -z] palm t b → t * low < high * b)
    (u1 : 1 ≤ u) (ua : ∀ t b, Mean v [u, -u] palm t b → high * b ≤ t * low) (ub : ∀ z, 1 ≤ z → z < u → ∀ t b, Mean v [z, -z] palm t b → t * low < high * b) : w = u := by
  rcases Int.lt_trichotomy w u with h | h | h
  · obtain ⟨t, b, m⟩ := mean_ex ok [w, -w] palm
    have h1 := wa t b m
    have h2 := ub w w1 h t b m
    omega
  · exact h
  · obtain ⟨t, b, m⟩ := mean_ex ok [u, -u] palm
    have h1 := ua t b m
    have h2 := wb u u1 h t b m
    omega
/-- the span for a fraction is not far above it -/
theorem for_le {v : Dv} (ok : v.Ok) {palm high low w : Int} (h0 : 0 ≤ high) (l1 : 1 ≤ low) (wb : ∀ z, 1 ≤ z → z < w → ∀ t b, Mean v [z, -z] palm t b → t * low < high * b) : w ≤ high + 48 := by
  rcases Int.lt_or_le (high + 48) w with q | q
  · exfalso
    obtain ⟨z, hz⟩ : ∃ z : Int, high + 48 = z := ⟨_, rfl⟩
    rw [hz] at q
    obtain ⟨t, b, m⟩ := mean_ex ok [z, -z] palm
    have h1 := wb z (by omega) q t b m
    have h2 := (m.le_span ok (by omega)).2
    have t0 := m.t0
    have b0 := m.b0
    have h3 : t * 1 ≤ t * low := Int.mul_le_mul_of_nonneg_left l1 t0
    have h4 : high * b ≤ (z - 46) * b := Int.mul_le_mul_of_nonneg_right (by omega) (by omega)
    omega
  · exact q
theorem for_one {v : Dv} (ok : v.Ok) {palm high low w : Int} (h0 : high ≤ 0) (l1 : 1 ≤ low) (w1 : 1 ≤ w) (wb : ∀ z, 1 ≤ z → z < w → ∀ t b, Mean v [z, -z] palm t b → t * low < high * b) : w = 1 := by
  rcases Int.lt_or_le 1 w with q | q
  · exfalso
    obtain ⟨t, b, m⟩ := mean_ex ok [1, -1] palm
    have h1 := wb 1 (by omega) q t b m
    have h2 := Int.mul_nonneg m.t0 (show 0 ≤ low by omega)
    have h3 : high * b ≤ 0 * b := Int.mul_le_mul_of_nonneg_right h0 (by have := m.b0; omega)
    rw [Int.zero_mul] at h3
    omega
  · omega
theorem for_val {v : Dv} (ok : v.Ok) {palm high low w x : Int} (l1 : 0 < low) (x0 : 1 ≤ x) (lo : x = 1 ∨ ∃ t b, Mean v [x - 1, -(x - 1)] palm t b ∧ t * low < high * b) (hi : ∃ t b, Mean v [x, -x] palm t b ∧ high * b ≤ t * low)
    (w1 : 1 ≤ w) (wa : ∀ t b, Mean v [w, -w] palm t b → high * b ≤ t * low) (wb : ∀ z, 1 ≤ z → z < w → ∀ t b, Mean v [z, -z] palm t b → t * low < high * b) : w = x := by
  rcases Int.lt_trichotomy w x with h | h | h
  · rcases lo with rfl | ⟨t', b', m', k'⟩
    · omega
    exfalso
    obtain ⟨t, b, m⟩ := mean_ex ok [w, -w] palm
    have h1 := wa t b m
    have h2 := Mean.up ok (show 0 < w by omega) (show w ≤ x - 1 by omega) m m'
    have b0 := m.b0
    have b0' := m'.b0
    have e1 : high * b * b' ≤ t * low * b' := Int.mul_le_mul_of_nonneg_right h1 (by omega)
    have e2 : t * b' * low ≤ t' * b * low := Int.mul_le_mul_of_nonneg_right h2 (by omega)
    have e3 : t' * low * b < high * b' * b := Int.mul_lt_mul_of_pos_right k' b0
    rw [Int.mul_right_comm t b' low] at e2
    rw [Int.mul_right_comm high b b'] at e1
    rw [Int.mul_right_comm t' b low] at e2
    omega
  · exact h
  · obtain ⟨t, b, m, k⟩ := hi
    have := wb x x0 h t b m
    omega
/-- the mean rise of a span of any size, from that of a small one -/
theorem mean_more {v : Dv} (ok : v.Ok) {L palm wide most t b : Int} (cm : Com v L) (hm : most = max v.1.p v.2.p) (m : Mean v [wide - max 0 ((wide - most) / L) * L, -(wide - max 0 ((wide - most) / L) * L)] palm t b) :
    Mean v [wide, -wide] palm (t + max 0 ((wide - most) / L) * L * b) b := by
  have L0 := cm.pos
  obtain ⟨k, hk⟩ : ∃ k : Int, max 0 ((wide - most) / L) = k := ⟨_, rfl⟩
  rw [hk] at m ⊢
  rcases Int.lt_or_le 0 k with q | q
  · have k2 : (wide - most) / L = k := by omega
    have e := Int.mul_ediv_add_emod (wide - most) L
    have e0 := Int.emod_nonneg (wide - most) (show L ≠ 0 by omega)
    rw [k2, Int.mul_comm] at e
    obtain ⟨n, hn⟩ : ∃ n : Nat, k = (n : Int) := ⟨k.toNat, by omega⟩
    rw [← Int.zero_sub] at m
    have pm := m.pumps ok cm (by omega) (by omega) n
    rw [← hn, Int.mul_comm L k] at pm
    rw [show wide - k * L + k * L = wide by omega, Int.zero_sub] at pm
    exact pm
  · have k0 : k = 0 := by omega
    rw [k0, Int.zero_mul, Int.sub_zero] at m
    rw [k0, Int.zero_mul, Int.zero_mul, Int.add_zero]
    exact m
theorem cyc_d1 : Cyc (c3, c5) [9, -9] (0, 0) 4 1 := cyc_of (by decide) (by decide +kernel) (by decide +kernel)
theorem mean_d1 : Mean (c3, c5) [9, -9] 0 5 1 := Mean.of ok_nar cyc_d1 (by decide +kernel)
theorem cyc_d2 : Cyc (c3, c5) [11, -11] (0, 0) 2 0 := cyc_of (by decide) (by decide +kernel) (by decide +kernel)
theorem mean_d2 : Mean (c3, c5) [11, -11] 0 15 2 := Mean.of ok_nar cyc_d2 (by decide +kernel)
theorem cyc_d3 : Cyc (c3, c5) [12, -12] (0, 0) 3 0 := cyc_of (by decide) (by decide +kernel) (by decide +kernel)
theorem mean_d3 : Mean (c3, c5) [12, -12] 0 10 1 := Mean.of ok_nar cyc_d3 (by decide +kernel)
theorem cyc_d4 : Cyc (c3, c5) [21, -21] (0, 0) 3 2 := cyc_of (by decide) (by decide +kernel) (by decide +kernel)
theorem mean_d4 : Mean (c3, c5) [21, -21] 0 15 1 := Mean.of ok_nar cyc_d4 (by decide +kernel)
theorem cyc_d5 : Cyc (c3, c5) [22, -22] (0, 0) 3 0 := cyc_of (by decide) (by decide +kernel) (by decide +kernel)
theorem mean_d5 : Mean (c3, c5) [22, -22] 0 20 1 := Mean.of ok_nar cyc_d5 (by decide +kernel)
end PD

/-! PD49: comprehensions over a tuple or a list that is met -/
namespace PD
open PySem PySem.Spec PyProof.Rows L2 Evl
section
variable {c : Cn} {K : PySem.W.Frag} {ds : DS} {pl : List D} {Φ : W → List D → Prop} {te : TE} {tt : TT} {tr : TA}
theorem we_lcTE {j : Nat} {tl : TE} (Pn : List D → Prop) (J : Nat → List D → List D → Prop) (hj : ∀ (xs : List D), ds[j]? ≠ some (some (W.o xs))) (h : WE c tl ds pl (isD fun d p1 => ∃ xs, d = .tuple xs ∧ Pn xs ∧ J 0 [] p1))
    (user : ∀ xs, Pn xs → ∀ (i : Nat) x acc pl', xs[i]? = some x → J i acc pl' → ∀ pin, WT { c with pin := pin } tt ((wipeD ds [j]).set j (some (.d x))) pl' fun b p2 => if b = true then WE { c with pin := pin } te ((wipeD ds [j]).set j (some (.d x))) p2
      (isD fun y p3 => acc.length < sizeLine ∧ J (i + 1) (acc ++ [y]) p3) else J (i + 1) acc p2)
    (hq : ∀ xs, Pn xs → ∀ acc pl', J xs.length acc pl' → Φ (.d (.list acc)) pl') : WE c (tLc (iTup K tl) (gName j) tt te [j]) ds pl Φ := fun G σ H h0 Q q => h G σ H h0 _ fun v G1 H1 w p1 h1 e1 f1 g1 => by
  match w, f1, g1 with
  | .d d, f1, ⟨xs, ed, hP, g1⟩ =>
    subst ed
    cases f1 with
    | @tup a vs _ a1 b1 =>
    refine ⟨a, rfl, ⟨vs, SqT.of (h1.sub _ _ a1)⟩, fun Dl hD => ?_⟩
    have f := df_new h1 hD
    refine lc_tup (K := K) (a := a) (xs := vs) (PvC c σ ds G1 Dl J) (pv_start J h1 hD g1) ?_ ?_ ?_
    · rintro i H' _ ⟨G', pl', acc, us, h2, e2, _⟩
      exact SqT.of (h2.sub _ _ (e2 _ _ a1))
    · intro i x H' hx p
      obtain ⟨d, hd1, hd2⟩ := b1.get' hx
      exact ⟨wipe_set σ j x, lc_turnD J f hj p (fun G' e => R.up hd2 e) fun acc pl' hJ pin => user xs hP i d acc pl' hd1 hJ pin⟩
    · intro H' p
      rw [b1.len] at p
      exact pv_end f p (hq xs hP) fun v G' H' w pl' h2 e2 f2 g2 => q v G' H' w pl' h2 (e1.trans e2) f2 g2
theorem we_lcLE {j : Nat} {tl : TE} (Pn : List D → Prop) (J : Nat → List D → List D → Prop) (hj : ∀ (xs : List D), ds[j]? ≠ some (some (W.o xs))) (h : WE c tl ds pl (isD fun d p1 => ∃ xs, d = .list xs ∧ Pn xs ∧ J 0 [] p1))
    (user : ∀ xs, Pn xs → ∀ (i : Nat) x acc pl', xs[i]? = some x → J i acc pl' → ∀ pin, WT { c with pin := pin } tt ((wipeD ds [j]).set j (some (.d x))) pl' fun b p2 => if b = true then WE { c with pin := pin } te ((wipeD ds [j]).set j (some (.d x))) p2
      (isD fun y p3 => acc.length < sizeLine ∧ J (i + 1) (acc ++ [y]) p3) else J (i + 1) acc p2)
    (hq : ∀ xs, Pn xs → ∀ acc pl', J xs.length acc pl' → Φ (.d (.list acc)) pl') : WE c (tLc (iList K tl) (gName j) tt te [j]) ds pl Φ := fun G σ H h0 Q q => h G σ H h0 _ fun v G1 H1 w p1 h1 e1 f1 g1 => by
  match w, f1, g1 with
  | .d d, f1, ⟨xs, ed, hP, g1⟩ =>
    subst ed
    cases f1 with
    | @lst a vs _ a1 b1 =>
    refine ⟨a, rfl, ⟨vs, SqL.of (h1.sub _ _ a1)⟩, fun Dl hD => ?_⟩
    have f := df_new h1 hD
    refine lc_list (K := K) (a := a) (xs := vs) (PvC c σ ds G1 Dl J) (pv_start J h1 hD g1) ?_ ?_ ?_
    · rintro i H' _ ⟨G', pl', acc, us, h2, e2, _⟩
      exact SqL.of (h2.sub _ _ (e2 _ _ a1))
    · intro i x H' hx p
      obtain ⟨d, hd1, hd2⟩ := b1.get' hx
      exact ⟨wipe_set σ j x, lc_turnD J f hj p (fun G' e => R.up hd2 e) fun acc pl' hJ pin => user xs hP i d acc pl' hd1 hJ pin⟩
    · intro H' p
      rw [b1.len] at p
      exact pv_end f p (hq xs hP) fun v G' H' w pl' h2 e2 f2 g2 => q v G' H' w pl' h2 (e1.trans e2) f2 g2
end
end PD

/-! PD50: math.lcm -/
namespace L2
open PySem PySem.Spec PyProof.Rows
section
variable {X : Cx}
def rLcm : List V → Hp → VK → Prop := fun vs H Q => ∃ a b : Int, vs = [.int a, .int b] ∧ a.natAbs < 2 ^ 64 ∧ b.natAbs < 2 ^ 64 ∧ Q (.int ((a.natAbs.lcm b.natAbs : Nat) : Int)) H
theorem cr_lcm : CallR X (.builtin "math.lcm") rLcm := by
  intro pins s σ H vs us Q I r h
  obtain ⟨a, b, rfl, ha, hb, q⟩ := h
  obtain ⟨t, u, rfl⟩ := Vals.int2 r
  exact PySem.W.mc_lcm ha hb fun _ => ⟨.int _, H, I.tok _, ⟨_, rfl⟩, q⟩
end
end L2
namespace PD
open PySem PySem.Spec PyProof.Rows L2 Evl
section
variable {c : Cn} {K : PySem.W.Frag} {ds : DS} {pl : List D} {Φ : W → List D → Prop}
theorem cb_lcm {a b : Int} (ha : a.natAbs < 2 ^ 64) (hb : b.natAbs < 2 ^ 64) (h : Φ (.d (.int ((Nat.lcm a.natAbs b.natAbs : Nat) : Int))) pl) : CbS c rLcm ds [.int a, .int b] pl Φ := fun G σ H vs hs f Q q => by
  obtain ⟨v, u, rfl, r1, r2⟩ := ra2 f
  cases r1
  cases r2
  exact ⟨a, b, rfl, ha, hb, q _ G H (.d _) pl hs (Ex.refl _) (R.int _) h⟩
end
end PD

/-! PD51: targets of any shape; a comprehension of two loops -/
namespace PD
open PySem PySem.Spec PyProof.Rows L2 Evl
/-- what a target makes of a value -/
def GA (c : Cn) (g : TG) (x : D) (u : DS → DS) : Prop := ∀ G σ H ds pl v, HS c G σ H ds pl → R G v x → ∀ Q : L2.St → Hp → Prop, (∀ σ', HS c G σ' H (u ds) pl → Q σ' H) → g v σ H Q
section
variable {c : Cn} {K : PySem.W.Frag} {ds : DS} {pl : List D} {t : TS} {E : EE} {Φ : W → List D → Prop} {te : TE} {tr tr1 : TA} {tt1 : TT}
theorem ga_name (j : Nat) (x : D) : GA c (gName j) x (fun ds => ds.set j (some (.d x))) := fun G σ H ds pl v hs r Q q => q _ (hs.set (i := j) (w := .d x) r fun xs z => by cases z)
theorem ga_tup2 {n : Nat} {g1 g2 : TG} {x y : D} {u1 u2 : DS → DS} (hn : n = 2) (h1 : GA c g1 x u1) (h2 : GA c g2 y u2) : GA c (gTup K n (gCons g1 (gCons g2 gNil))) (.tuple [x, y]) (fun ds => u2 (u1 ds)) := fun G σ H ds pl v hs r Q q => by
  subst hn
  cases r with
  | tup a b =>
    cases b with
    | cons r1 b =>
      cases b with
      | cons r2 b =>
        cases b
        exact ⟨_, _, rfl, SqT.of (hs.sub _ _ a), rfl, _, _, rfl, h1 G σ H ds pl _ hs r1 _ fun σ1 hs1 => ⟨_, _, rfl, h2 G σ1 H _ pl _ hs1 r2 _ fun σ2 hs2 => ⟨rfl, q σ2 hs2⟩⟩⟩
theorem ga_tup3 {n : Nat} {g1 g2 g3 : TG} {x y z : D} {u1 u2 u3 : DS → DS} (hn : n = 3) (h1 : GA c g1 x u1) (h2 : GA c g2 y u2) (h3 : GA c g3 z u3) : GA c (gTup K n (gCons g1 (gCons g2 (gCons g3 gNil)))) (.tuple [x, y, z]) (fun ds => u3 (u2 (u1 ds))) := fun G σ H ds pl v hs r Q q => by
  subst hn
  cases r with
  | tup a b =>
    cases b with
    | cons r1 b =>
      cases b with
      | cons r2 b =>
        cases b with
        | cons r3 b =>
          cases b
          exact ⟨_, _, rfl, SqT.of (hs.sub _ _ a), rfl, _, _, rfl, h1 G σ H ds pl _ hs r1 _ fun σ1 hs1 => ⟨_, _, rfl, h2 G σ1 H _ pl _ hs1 r2 _ fun σ2 hs2 => ⟨_, _, rfl, h3 G σ2 H _ pl _ hs2 r3 _ fun σ3 hs3 => ⟨rfl, q σ3 hs3⟩⟩⟩⟩
/-- g = e -/
theorem ws_asgG {g : TG} (h : WE c te ds pl (isD fun x p1 => ∃ u, GA c g x u ∧ E.nx (u ds) p1)) : WS c (tAsg te g) ds pl E := fun G σ H hs D' f => h G σ H hs _ fun v G1 H1 w p1 h1 e1 f1 g1 => by
  match w, f1, g1 with
  | .d x, f1, ⟨u, ga, g1⟩ => exact ga G1 σ H1 ds p1 v h1 f1 _ fun σ' h2 => f.nx G1 σ' H1 _ p1 h2 e1 g1
/-- for g in a list of data -/
theorem ws_forG {g : TG} {tl : TE} (u : D → DS → DS) (I : Nat → DS → List D → Prop) (xs : List D) (ga : ∀ x ∈ xs, GA c g x (u x)) (h : WE c tl ds pl (isD fun d p1 => d = .list xs ∧ I 0 ds p1))
    (hs : ∀ i x ds' pl', xs[i]? = some x → I i ds' pl' → WS c t (u x ds') pl' { nx := I (i + 1), ct := I (i + 1), bk := E.nx, rt := E.rt }) (hd : ∀ ds' pl', I xs.length ds' pl' → E.nx ds' pl') :
    WS c (tFor (iList K tl) g t) ds pl E := fun G σ H h0 D' f => h G σ H h0 _ fun v G1 H1 w p1 h1 e1 f1 g1 => by
  match w, f1, g1 with
  | .d d, f1, ⟨ed, g1⟩ =>
    subst ed
    cases f1 with
    | @lst a vs _ a1 b1 =>
    refine ⟨a, rfl, ⟨vs, SqL.of (h1.sub _ _ a1)⟩, for_list (K := K) (a := a) (xs := vs) (fun i σ' H' => ∃ G' ds' pl', HS c G' σ' H' ds' pl' ∧ Ex G1 G' ∧ I i ds' pl') ⟨G1, ds, p1, h1, Ex.refl _, g1⟩ ?_ ?_ ?_⟩
    · rintro i σ' H' _ ⟨G', ds', pl', h2, e2, _⟩
      exact SqL.of (h2.sub _ _ (e2 _ _ a1))
    · rintro i x σ' H' hx ⟨G', ds', pl', h2, e2, g2⟩
      obtain ⟨d, hd1, hd2⟩ := b1.get' hx
      refine ga d (List.mem_of_getElem? hd1) G' σ' H' ds' pl' x h2 (R.up hd2 e2) _ fun σ2 h5 => ?_
      refine hs i d ds' pl' hd1 g2 G' _ H' h5 _ ⟨?_, ?_, ?_, ?_⟩
      · exact fun G3 σ3 H3 ds3 pl3 h3 e3 g3 => ⟨G3, ds3, pl3, h3, e2.trans e3, g3⟩
      · exact fun v G3 σ3 H3 ds3 w3 pl3 h3 e3 q3 g3 => f.rt v G3 σ3 H3 ds3 w3 pl3 h3 ((e1.trans e2).trans e3) q3 g3
      · exact fun G3 σ3 H3 ds3 pl3 h3 e3 g3 => f.nx G3 σ3 H3 ds3 pl3 h3 ((e1.trans e2).trans e3) g3
      · exact fun G3 σ3 H3 ds3 pl3 h3 e3 g3 => ⟨G3, ds3, pl3, h3, e2.trans e3, g3⟩
    · rintro σ' H' ⟨G', ds', pl', h2, e2, g2⟩
      rw [b1.len] at g2
      exact f.nx G' σ' H' ds' pl' h2 (e1.trans e2) (hd _ _ g2)
/-- for i, g in enumerate(a list of data) -/
theorem ws_forEG {j1 : Nat} {g : TG} (u : D → DS → DS) (I : Nat → DS → List D → Prop) (xs : List D) (ga : ∀ x ∈ xs, GA c g x (u x)) (h : WA c tr ds pl fun ys p1 => ys = [.list xs] ∧ I 0 ds p1)
    (hs : ∀ (i : Nat) x ds' pl', xs[i]? = some x → I i ds' pl' → WS c t (u x (ds'.set j1 (some (.d (.int i))))) pl' { nx := I (i + 1), ct := I (i + 1), bk := E.nx, rt := E.rt }) (hd : ∀ ds' pl', I xs.length ds' pl' → E.nx ds' pl') :
    WS c (tFor (iEnum K tr) (gTup K 2 (gCons (gName j1) (gCons g gNil))) t) ds pl E := fun G σ H h0 D' f => h G σ H h0 _ fun vs G1 H1 ys p1 h1 e1 f1 ⟨ey, g1⟩ => by
  subst ey
  obtain ⟨v, rfl, r⟩ := ra1 f1
  cases r with
  | @lst a us _ a1 b1 =>
  refine ⟨a, us, rfl, SqL.of (h1.sub _ _ a1), fun i m σ' H' => m = us.length - i ∧ i ≤ us.length ∧ ∃ G' ds' pl', HS c G' σ' H' ds' pl' ∧ Ex G1 G' ∧ I i ds' pl', ⟨us.length, by simp, Nat.zero_le _, G1, ds, p1, h1, Ex.refl _, g1⟩, ?_⟩
  rintro i m σ' H' ⟨rfl, hi, G', ds', pl', h2, e2, g2⟩
  have sq : SqL K H' a us := SqL.of (h2.sub _ _ (e2 _ _ a1))
  by_cases hlt : i < us.length
  · refine .inr ⟨⟨us, us[i], sq, by simp [hlt]⟩, fun σ3 H3 => ∃ G3 ds3 pl3, HS c G3 σ3 H3 ds3 pl3 ∧ Ex G1 G3 ∧ I (i + 1) ds3 pl3, fun σ3 H3 q => ⟨us.length - (i + 1), by omega, rfl, hlt, q⟩, ?_⟩
    rintro x H3 ⟨T, y, rfl, hT, rfl, hy⟩
    have hy2 := hy us sq
    obtain ⟨d, hd1, hd2⟩ := b1.get' hy2
    have n := h2.none_of hT
    have e3 : Ex G' (upd G' T (.tup [.int (i : Nat), y])) := Ex.new n.1
    have hN := (h2.newD (o := .tup [.int (i : Nat), y]) hT).set (i := j1) (w := .d (.int i)) (R.int _) fun xs z => by cases z
    refine ⟨T, _, rfl, SqT.of upd_same, rfl, _, _, rfl, _, _, rfl, ?_⟩
    refine ga d (List.mem_of_getElem? hd1) _ _ _ _ pl' y hN (R.up hd2 (e2.trans e3)) _ fun σ2 h5 => ⟨rfl, ?_⟩
    refine hs i d ds' pl' hd1 g2 _ _ _ h5 _ ⟨?_, ?_, ?_, ?_⟩
    · exact fun G4 σ4 H4 ds4 pl4 h4 e4 g4 => ⟨G4, ds4, pl4, h4, (e2.trans e3).trans e4, g4⟩
    · exact fun v G4 σ4 H4 ds4 w4 pl4 h4 e4 q4 g4 => f.rt v G4 σ4 H4 ds4 w4 pl4 h4 (e1.trans ((e2.trans e3).trans e4)) q4 g4
    · exact fun G4 σ4 H4 ds4 pl4 h4 e4 g4 => f.nx G4 σ4 H4 ds4 pl4 h4 (e1.trans ((e2.trans e3).trans e4)) g4
    · exact fun G4 σ4 H4 ds4 pl4 h4 e4 g4 => ⟨G4, ds4, pl4, h4, (e2.trans e3).trans e4, g4⟩
  · have ei : i = us.length := by omega
    subst ei
    rw [b1.len] at g2
    exact .inl ⟨⟨us, sq, Nat.le_refl _⟩, f.nx G' σ' H' ds' pl' h2 (e1.trans e2) (hd _ _ g2)⟩
end
/-! ### two loops -/
theorem wipe_comm {σ : L2.St} {j : Nat} {o : Option V} : ∀ {vs : List Nat}, j ∉ vs → L2.wipe (σ.set j o) vs = (L2.wipe σ vs).set j o
  | [], _ => rfl
  | v :: vs, h => by
    show (L2.wipe (σ.set j o) vs).set v none = ((L2.wipe σ vs).set v none).set j o
    rw [wipe_comm fun q => h (List.mem_cons_of_mem _ q), List.set_comm _ _ (fun e : j = v => h (e ▸ List.mem_cons_self))]
theorem wipe_in {σ : L2.St} {j : Nat} {o : Option V} : ∀ {vs : List Nat}, j ∈ vs → L2.wipe (σ.set j o) vs = L2.wipe σ vs
  | [], h => nomatch h
  | v :: vs, h => by
    show (L2.wipe (σ.set j o) vs).set v none = (L2.wipe σ vs).set v none
    by_cases e : j ∈ vs
    · rw [wipe_in e]
    · have ev : j = v := by
        rcases List.mem_cons.mp h with z | z
        · exact z
        · exact absurd z e
      rw [wipe_comm e, ev, List.set_set]
theorem wipe_sub {σ : L2.St} {vs : List Nat} : ∀ {ws : List Nat}, (∀ w ∈ ws, w ∈ vs) → L2.wipe (L2.wipe σ ws) vs = L2.wipe σ vs
  | [], _ => rfl
  | w :: ws, h => by
    show L2.wipe ((L2.wipe σ ws).set w none) vs = _
    rw [wipe_in (h w List.mem_cons_self), wipe_sub fun x hx => h x (List.mem_cons_of_mem _ hx)]
def Nod (ds : DS) : Prop := ∀ (j : Nat) (xs : List D), ds[j]? ≠ some (some (W.o xs))
theorem Nod.set {ds : DS} (h : Nod ds) (j : Nat) (x : D) : Nod (ds.set j (some (.d x))) := fun i xs q => by
  by_cases e : j = i
  · subst e
    have hlt := (List.getElem?_eq_some_iff.mp q).1
    rw [List.length_set] at hlt
    rw [List.getElem?_set_self hlt] at q
    cases q
  · rw [List.getElem?_set_ne e] at q
    exact h i xs q
theorem Nod.none {ds : DS} (h : Nod ds) (j : Nat) : Nod (ds.set j Option.none) := fun i xs q => by
  by_cases e : j = i
  · subst e
    have hlt := (List.getElem?_eq_some_iff.mp q).1
    rw [List.length_set] at hlt
    rw [List.getElem?_set_self hlt] at q
    cases q
  · rw [List.getElem?_set_ne e] at q
    exact h i xs q
theorem Nod.wipe {ds : DS} (h : Nod ds) : ∀ vs : List Nat, Nod (wipeD ds vs)
  | [] => h
  | v :: vs => (Nod.wipe h vs).none v
theorem Nod.df {c : Cn} {σ σ' : L2.St} {ds ds' : DS} {Dl : Addr} (h : Nod ds') (f : DF c σ ds Dl) : DF c σ' ds' Dl := ⟨f.h0, f.pin, f.pool, f.hd, fun i xs p q => absurd q (h i xs)⟩
section
variable {c : Cn} {K : PySem.W.Frag} {ds : DS} {pl : List D} {Φ : W → List D → Prop} {te : TE} {tr : TA} {tt1 : TT}
/-- [e for i, x in enumerate(xs) for k, y in enumerate(ys) if t], nothing owned -/
theorem we_lc2E {j1 j2 j3 j4 m0 : Nat} (J : Nat → Nat → List D → List D → Prop) (xs ys : List D) (no : Nod ds) (hm : ds[m0]? = some (some (.d (.list ys)))) (hm1 : m0 ∉ [j1, j2, j3, j4]) 
    (h : WA c tr ds pl fun zs p1 => zs = [.list xs] ∧ J 0 0 [] p1)
    (user : ∀ (i k : Nat) x y acc pl', xs[i]? = some x → ys[k]? = some y → J i k acc pl' → ∀ pin, WT { c with pin := pin } tt1 (((wipeD (((wipeD ds [j1, j2, j3, j4]).set j1 (some (.d (.int (i : Int))))).set j2 (some (.d x))) [j3, j4]).set j3 (some (.d (.int (k : Int))))).set j4 (some (.d y))) pl' fun b p2 =>
      if b = true then WE { c with pin := pin } te (((wipeD (((wipeD ds [j1, j2, j3, j4]).set j1 (some (.d (.int (i : Int))))).set j2 (some (.d x))) [j3, j4]).set j3 (some (.d (.int (k : Int))))).set j4 (some (.d y))) p2 (isD fun z p3 => acc.length < sizeLine ∧ J i (k + 1) (acc ++ [z]) p3) else J i (k + 1) acc p2)
    (next : ∀ i acc pl', J i ys.length acc pl' → J (i + 1) 0 acc pl')
    (hq : ∀ acc pl', J xs.length 0 acc pl' → Φ (.d (.list acc)) pl') :
    WE c (tLc2 (iEnum K tr) (gTup K 2 (gCons (gName j1) (gCons (gName j2) gNil))) tYes (iEnum K (tCons (tVar m0) tNil)) (gTup K 2 (gCons (gName j3) (gCons (gName j4) gNil))) tt1 te [j1, j2, j3, j4] [j3, j4]) ds pl Φ := fun G σ H h0 Q q => h G σ H h0 _ fun vs G1 H1 zs p1 h1 e1 f1 ⟨ez, g1⟩ => by
  subst ez
  obtain ⟨v, rfl, r1⟩ := ra1 f1
  cases r1 with
  | @lst a us1 _ a1 b1 =>
  refine ⟨a, us1, rfl, SqL.of (h1.sub _ _ a1), fun Dl hD => ?_⟩
  have f := df_new h1 hD
  refine ⟨fun i m H' => m = us1.length - i ∧ i ≤ us1.length ∧ PvC c σ ds G1 Dl (fun i => J i 0) i H', ⟨us1.length, by simp, Nat.zero_le _, pv_start (fun i => J i 0) h1 hD g1⟩, ?_⟩
  rintro i m H' ⟨rfl, hi, p⟩
  obtain ⟨G', pl', acc, us, h2, e2, hD2, ra, gD, hJ⟩ := id p
  have sq1 : SqL K H' a us1 := SqL.of (h2.sub _ _ (e2 _ _ a1))
  by_cases hlt : i < us1.length
  · refine .inr ⟨⟨us1, us1[i], sq1, by simp [hlt]⟩, PvC c σ ds G1 Dl (fun i => J i 0) (i + 1), fun H3 q => ⟨us1.length - (i + 1), by omega, rfl, hlt, q⟩, ?_⟩
    rintro x H3 ⟨T, x2, rfl, hT, rfl, y1⟩
    obtain ⟨d2, hd2, hr2⟩ := b1.get' (y1 us1 sq1)
    have n := h2.none_of hT
    have e3 : Ex G' (upd G' T (.tup [.int (i : Nat), x2])) := Ex.new n.1
    have hT2 := h2.newD (o := .tup [.int (i : Nat), x2]) hT
    have mem : ∀ w ∈ [j1, j2, j3, j4], w ∈ [j1, j2, j3, j4] := fun w hw => hw
    refine ⟨T, _, rfl, SqT.of upd_same, rfl, _, _, rfl, _, _, rfl, rfl, ?_, ?_⟩
    · rw [wipe_in (by simp), wipe_in (by simp), wipe_sub mem]
    unfold tYes
    dsimp only
    rw [if_pos rfl]
    obtain ⟨w, w1, w2⟩ := hT2.slots m0 _ hm
    have w2' : R _ w (.list ys) := w2
    cases w2' with
    | @lst a2 us2 _ c1 d1 =>
    refine ⟨.ref a2, ?_, a2, us2, rfl, SqL.of (hT2.sub _ _ c1), ?_⟩
    · have ne1 : j1 ≠ m0 := fun e => hm1 (e ▸ by simp)
      have ne2 : j2 ≠ m0 := fun e => hm1 (e ▸ by simp)
      rw [List.getElem?_set_ne ne2, List.getElem?_set_ne ne1, wipe_ne hm1]
      exact w1
    have gDT : (upd G' T (.tup [.int (i : Nat), x2])) Dl = none := by rw [upd_ne (ne_of_none hD2 hT)]; exact gD
    refine ⟨fun k m H'' => m = us2.length - k ∧ k ≤ us2.length ∧ PvC c σ ds (upd G' T (.tup [.int (i : Nat), x2])) Dl (J i) k H'', ⟨us2.length, by simp, Nat.zero_le _, _, pl', acc, us, hT2, Ex.refl _, by rw [upd_ne (ne_of_none hD2 hT)]; exact hD2, ra.up e3, gDT, hJ⟩, ?_⟩
    rintro k m H'' ⟨rfl, hk, p2⟩
    obtain ⟨G5, pl5, acc5, us5, h5, e5, hD5, ra5, gD5, hJ5⟩ := id p2
    have sq2 : SqL K H'' a2 us2 := SqL.of (h5.sub _ _ (e5 _ _ c1))
    by_cases hlt2 : k < us2.length
    · refine .inr ⟨⟨us2, us2[k], sq2, by simp [hlt2]⟩, PvC c σ ds (upd G' T (.tup [.int (i : Nat), x2])) Dl (J i) (k + 1), fun H3 q => ⟨us2.length - (k + 1), by omega, rfl, hlt2, q⟩, ?_⟩
      rintro y H6 ⟨T2, y2, rfl, hTT, rfl, y3⟩
      obtain ⟨dy, hdy, hry⟩ := d1.get' (y3 us2 sq2)
      have n2 := h5.none_of hTT
      have e6 : Ex G5 (upd G5 T2 (.tup [.int (k : Nat), y2])) := Ex.new n2.1
      refine ⟨T2, _, rfl, SqT.of upd_same, rfl, _, _, rfl, _, _, rfl, rfl, wipe_set2 _ j3 j4 _ y2, ?_⟩
      have hw0 := (((h5.newD (o := .tup [.int (k : Nat), y2]) hTT).wipe [j1, j2, j3, j4]).set (i := j1) (w := .d (.int (i : Int))) (R.int _) fun xs z => by cases z).set (i := j2) (w := .d d2) (R.up hr2 (e2.trans (e3.trans (e5.trans e6)))) fun xs z => by cases z
      have hw := ((hw0.wipe [j3, j4]).set (i := j3) (w := .d (.int (k : Int))) (R.int _) fun xs z => by cases z).set (i := j4) (w := .d dy) (R.up hry (e5.trans e6)) fun xs z => by cases z
      have nod := ((((((no.wipe [j1, j2, j3, j4]).set j1 (.int (i : Int))).set j2 d2).wipe [j3, j4]).set j3 (.int (k : Int))).set j4 dy)
      refine lc_turnG (J i) f (nod.df f) (fun i' xs' q => absurd q (no i' xs')) h5 hw e5 e6 (by rw [upd_ne (ne_of_none hD5 hTT)]; exact hD5) ?_ ra5 (fun pin => user i k d2 dy acc5 pl5 hd2 hdy hJ5 pin) hJ5
      rw [upd_ne (ne_of_none hD5 hTT)]
      exact gD5
    · have ek : k = us2.length := by omega
      subst ek
      have hJ6 : J i ys.length acc5 pl5 := by rw [← d1.len]; exact hJ5
      exact .inl ⟨⟨us2, sq2, Nat.le_refl _⟩, G5, pl5, acc5, us5, h5, (e2.trans e3).trans e5, hD5, ra5, gD5, next i acc5 pl5 hJ6⟩
  · have ei : i = us1.length := by omega
    subst ei
    rw [b1.len] at p
    exact .inl ⟨⟨us1, sq1, Nat.le_refl _⟩, pv_end f p hq fun v G' H' w pl' h2 e2 f2 g2 => q v G' H' w pl' h2 (e1.trans e2) f2 g2⟩
end
end PD

/-! PD52: bars that fit looks -/
namespace PD
open PySem PySem.Spec PyProof.Rows L2 Evl
section
variable {c : Cn} {K : PySem.W.Frag} {ds : DS} {pl : List D} {Φ : W → List D → Prop} {te : TE} {tt : TT} {j : Nat}
/-- a comprehension over a list, the new list owned -/
theorem we_lcLO {tl : TE} (J : Nat → List D → List D → Prop) (xs : List D) (hj : ∀ (xs : List D), ds[j]? ≠ some (some (W.o xs))) (h : WE c tl ds pl (isD fun d p1 => d = .list xs ∧ J 0 [] p1))
    (user : ∀ (i : Nat) x acc pl', xs[i]? = some x → J i acc pl' → ∀ pin, WT { c with pin := pin } tt ((wipeD ds [j]).set j (some (.d x))) pl' fun b p2 => if b = true then WE { c with pin := pin } te ((wipeD ds [j]).set j (some (.d x))) p2
      (isD fun y p3 => acc.length < sizeLine ∧ J (i + 1) (acc ++ [y]) p3) else J (i + 1) acc p2)
    (hq : ∀ acc pl', J xs.length acc pl' → Φ (.o acc) pl') : WE c (tLc (iList K tl) (gName j) tt te [j]) ds pl Φ := fun G σ H h0 Q q => h G σ H h0 _ fun v G1 H1 w p1 h1 e1 f1 g1 => by
  match w, f1, g1 with
  | .d d, f1, ⟨ed, g1⟩ =>
    subst ed
    cases f1 with
    | @lst a vs _ a1 b1 =>
    refine ⟨a, rfl, ⟨vs, SqL.of (h1.sub _ _ a1)⟩, fun Dl hD => ?_⟩
    have f := df_new h1 hD
    refine lc_list (K := K) (a := a) (xs := vs) (PvC c σ ds G1 Dl J) (pv_start J h1 hD g1) ?_ ?_ ?_
    · rintro i H' _ ⟨G', pl', acc, us, h2, e2, _⟩
      exact SqL.of (h2.sub _ _ (e2 _ _ a1))
    · intro i x H' hx p
      obtain ⟨d, hd1, hd2⟩ := b1.get' hx
      exact ⟨wipe_set σ j x, lc_turnD J f hj p (fun G' e => R.up hd2 e) fun acc pl' hJ pin => user i d acc pl' hd1 hJ pin⟩
    · intro H' p
      rw [b1.len] at p
      obtain ⟨G', pl', acc, us, h2, e2, hD2, ra, gD, hJ⟩ := p
      exact q (.ref Dl) G' H' (.o acc) pl' h2 (e1.trans e2) ⟨Dl, us, rfl, hD2, ra, gD, f.h0, f.pin, f.pool, f.hd⟩ (hq acc pl' hJ)
end
abbrev u2 (j1 j2 : Nat) : D → DS → DS := fun d ds => match d with
  | .tuple [x, y] => (ds.set j1 (some (.d x))).set j2 (some (.d y))
  | _ => ds
abbrev u3 (j1 j2 j3 : Nat) : D → DS → DS := fun d ds => match d with
  | .tuple [x, y, z] => ((ds.set j1 (some (.d x))).set j2 (some (.d y))).set j3 (some (.d z))
  | _ => ds
/-! ### starts -/
def rowL (v : Dv) (a : Nat) (n : Nat) : List (Int × Int) := ((List.range n).filter fun (l : Nat) => held v ((a : Int), (a : Int) - (l : Int))).map fun (l : Nat) => ((a : Int), (l : Int))
def startsN (v : Dv) (i : Nat) : List (Int × Int) := (List.range i).flatMap fun a => rowL v a v.2.p.toNat
abbrev startsL (v : Dv) : List (Int × Int) := startsN v v.1.p.toNat
theorem rowL_succ (v : Dv) (a n : Nat) : rowL v a (n + 1) = rowL v a n ++ (if held v ((a : Int), (a : Int) - (n : Int)) = true then [((a : Int), (n : Int))] else []) := by
  unfold rowL
  rw [List.range_succ, List.filter_append, List.map_append]
  by_cases h : held v ((a : Int), (a : Int) - (n : Int)) = true
  · rw [if_pos h, List.filter_cons_of_pos (p := fun (l : Nat) => held v ((a : Int), (a : Int) - (l : Int))) h]; rfl
  · rw [if_neg h, List.filter_cons_of_neg (p := fun (l : Nat) => held v ((a : Int), (a : Int) - (l : Int))) h]; rfl
theorem startsN_succ (v : Dv) (i : Nat) : startsN v (i + 1) = startsN v i ++ rowL v i v.2.p.toNat := by
  unfold startsN
  rw [List.range_succ, List.flatMap_append]
  simp
theorem rowL_len (v : Dv) (a n : Nat) : (rowL v a n).length ≤ n := by
  unfold rowL
  rw [List.length_map]
  exact Nat.le_trans (List.length_filter_le _ _) (by rw [List.length_range]; exact Nat.le_refl _)
theorem startsN_len (v : Dv) : ∀ i : Nat, (startsN v i).length ≤ i * v.2.p.toNat
  | 0 => Nat.zero_le _
  | i + 1 => by
    rw [startsN_succ, List.length_append, Nat.succ_mul]
    have := startsN_len v i
    have := rowL_len v i v.2.p.toNat
    omega
theorem startsN_in {v : Dv} {i : Nat} {st : Int × Int} (h : st ∈ startsN v i) : 0 ≤ st.1 ∧ st.1 < (i : Int) ∧ 0 ≤ st.2 ∧ st.2 < (v.2.p.toNat : Int) ∧ held v (st.1, st.1 - st.2) = true := by
  unfold startsN at h
  obtain ⟨a, ha, h⟩ := List.mem_flatMap.mp h
  unfold rowL at h
  obtain ⟨l, hl, rfl⟩ := List.mem_map.mp h
  have h1 := List.mem_range.mp ha
  obtain ⟨h2, h3⟩ := List.mem_filter.mp hl
  have h4 := List.mem_range.mp h2
  exact ⟨by show (0 : Int) ≤ (a : Int); omega, by show (a : Int) < (i : Int); omega, by show (0 : Int) ≤ (l : Int); omega, by show (l : Int) < _; omega, h3⟩
theorem startsL_len {v : Dv} (ok : v.Ok) : (startsL v).length ≤ 576 := by
  have := startsN_len v v.1.p.toNat
  have p1 := ok.1.p24
  have p2 := ok.2.p24
  have : v.1.p.toNat * v.2.p.toNat ≤ 24 * 24 := Nat.mul_le_mul (by omega) (by omega)
  show (startsN v v.1.p.toNat).length ≤ 576
  omega
theorem startsL_in {v : Dv} (ok : v.Ok) {st : Int × Int} (h : st ∈ startsL v) : 0 ≤ st.1 ∧ st.1 < 24 ∧ 0 ≤ st.2 ∧ st.2 < 24 ∧ held v (st.1, st.1 - st.2) = true := by
  have := startsN_in h
  have p1 := ok.1.p1
  have p2 := ok.2.p1
  have p3 := ok.1.p24
  have p4 := ok.2.p24
  exact ⟨this.1, by omega, this.2.2.1, by omega, this.2.2.2.2⟩
theorem slk_zero {c : Comb} (ok : c.Ok) (n : Int) : decide (slk c n = 0) = caught c n := by
  have sp := flo_spec ok n
  cases h : caught c n with
  | true =>
    have := flo_of ok h
    exact decide_eq_true (by unfold slk; omega)
  | false =>
    refine decide_eq_false fun z => ?_
    unfold slk at z
    have e : flo c n = n := by omega
    have := sp.2.1
    rw [e, h] at this
    cases this
/-! ### notes -/
/-- a bar that goes through looks -/
def runN (v : Dv) : Sv → List (Int × Int) → Option Sv
  | s, [] => some s
  | s, q :: r => if (mv v s q.1).1 - s.1 = q.2 then runN v (mv v s q.1) r else none
theorem runN_app (v : Dv) : ∀ (ns ms : List (Int × Int)) (s : Sv), runN v s (ns ++ ms) = (runN v s ns).bind fun t => runN v t ms
  | [], _, _ => rfl
  | q :: r, ms, s => by
    show (if _ then runN v (mv v s q.1) (r ++ ms) else none) = (if _ then runN v (mv v s q.1) r else none).bind _
    by_cases h : (mv v s q.1).1 - s.1 = q.2
    · rw [if_pos h, if_pos h, runN_app v r ms]
    · rw [if_neg h, if_neg h]; rfl
theorem runN_plc {v : Dv} (ok : v.Ok) : ∀ (ns : List (Int × Int)) {s t : Sv}, plc v s = plc v t → (runN v s ns).isSome = (runN v t ns).isSome
  | [], _, _, _ => rfl
  | q :: r, s, t, h => by
    have e := mv_shift ok h q.1
    have e1 : (mv v t q.1).1 - t.1 = (mv v s q.1).1 - s.1 := by rw [e]; show (mv v s q.1).1 + (t.1 - s.1) - t.1 = _; omega
    show (if _ then runN v (mv v s q.1) r else none).isSome = (if _ then runN v (mv v t q.1) r else none).isSome
    rw [e1]
    by_cases z : (mv v s q.1).1 - s.1 = q.2
    · rw [if_pos z, if_pos z]
      exact runN_plc ok r (plc_shift h e)
    · rw [if_neg z, if_neg z]
theorem runN_bound {v : Dv} (ok : v.Ok) {M : Nat} : ∀ (ns : List (Int × Int)) {s t : Sv}, (∀ q ∈ ns, q.1.natAbs ≤ M) → runN v s ns = some t → t.1.natAbs ≤ s.1.natAbs + ns.length * (M + 48) ∧ t.2.natAbs ≤ s.2.natAbs + ns.length * (M + 48)
  | [], s, t, _, h => by cases h; simp
  | q :: r, s, t, hm, h => by
    have h' : (if (mv v s q.1).1 - s.1 = q.2 then runN v (mv v s q.1) r else none) = some t := h
    by_cases z : (mv v s q.1).1 - s.1 = q.2
    · rw [if_pos z] at h'
      have h1 := runN_bound ok r (fun x hx => hm x (List.mem_cons_of_mem _ hx)) h'
      have h2 := mv_bound ok s q.1
      have h3 := hm q List.mem_cons_self
      rw [List.length_cons, Nat.succ_mul]
      omega
    · rw [if_neg z] at h'
      cases h'
abbrev Bar := (Int × Int) × Sv
def barD (b : Bar) : D := .tuple [Sv.d b.1, .int b.2.1, .int (lf b.2)]
def begun (st : Int × Int) : Bar := (st, (st.1, st.1 - st.2))
theorem barD_begun (st : Int × Int) : barD (begun st) = .tuple [Sv.d st, .int st.1, .int st.2] := by
  unfold barD begun
  show PyData.tuple [Sv.d st, .int st.1, .int (st.1 - (st.1 - st.2))] = _
  rw [show st.1 - (st.1 - st.2) = st.2 by omega]
def seenL (v : Dv) (bs : List Bar) (q : Int × Int) : List Bar := (bs.filter fun b => decide ((mv v b.2 q.1).1 - b.2.1 = q.2)).map fun b => (b.1, mv v b.2 q.1)
theorem seenL_len (v : Dv) (bs : List Bar) (q : Int × Int) : (seenL v bs q).length ≤ bs.length := by
  unfold seenL
  rw [List.length_map]
  exact List.length_filter_le _ _
theorem seenL_app (v : Dv) (bs cs : List Bar) (q : Int × Int) : seenL v (bs ++ cs) q = seenL v bs q ++ seenL v cs q := by
  unfold seenL
  rw [List.filter_append, List.map_append]
theorem seenL_yes (v : Dv) {b : Bar} {q : Int × Int} (h : (mv v b.2 q.1).1 - b.2.1 = q.2) : seenL v [b] q = [(b.1, mv v b.2 q.1)] := by
  unfold seenL
  rw [List.filter_cons_of_pos (p := fun b : Bar => decide ((mv v b.2 q.1).1 - b.2.1 = q.2)) (decide_eq_true h)]
  rfl
theorem seenL_no (v : Dv) {b : Bar} {q : Int × Int} (h : ¬ (mv v b.2 q.1).1 - b.2.1 = q.2) : seenL v [b] q = [] := by
  unfold seenL
  rw [List.filter_cons_of_neg (p := fun b : Bar => decide ((mv v b.2 q.1).1 - b.2.1 = q.2)) (by simpa using h)]
  rfl
def fitL (v : Dv) (ns : List (Int × Int)) : List Bar := ns.foldl (seenL v) ((startsL v).map begun)
theorem fit_run (v : Dv) : ∀ (ns : List (Int × Int)) (bs : List Bar), ns.foldl (seenL v) bs = bs.filterMap fun b => (runN v b.2 ns).map fun t => (b.1, t)
  | [], bs => by
    show bs = bs.filterMap fun b => some (b.1, b.2)
    exact (List.filterMap_some ..).symm
  | q :: r, bs => by
    show r.foldl (seenL v) (seenL v bs q) = _
    rw [fit_run v r]
    unfold seenL
    induction bs with
    | nil => rfl
    | cons b bs ih =>
      by_cases h : (mv v b.2 q.1).1 - b.2.1 = q.2
      · rw [List.filter_cons_of_pos (p := fun b : Bar => decide ((mv v b.2 q.1).1 - b.2.1 = q.2)) (decide_eq_true h), List.map_cons, List.filterMap_cons, List.filterMap_cons]
        have e : runN v b.2 (q :: r) = runN v (mv v b.2 q.1) r := if_pos h
        rw [e, ih]
      · rw [List.filter_cons_of_neg (p := fun b : Bar => decide ((mv v b.2 q.1).1 - b.2.1 = q.2)) (by simpa using h), List.filterMap_cons]
        have e : runN v b.2 (q :: r) = none := if_neg h
        rw [e, ih]
        rfl
theorem fit_starts (v : Dv) (ns : List (Int × Int)) : (fitL v ns).map (·.1) = (startsL v).filter fun st => (runN v (st.1, st.1 - st.2) ns).isSome := by
  unfold fitL
  rw [fit_run]
  generalize startsL v = ss
  induction ss with
  | nil => rfl
  | cons st ss ih =>
    rw [List.map_cons, List.filterMap_cons]
    cases h : runN v (st.1, st.1 - st.2) ns with
    | none =>
      have e : (runN v (begun st).2 ns).map (fun t => ((begun st).1, t)) = none := by
        show (runN v (st.1, st.1 - st.2) ns).map _ = none
        rw [h]; rfl
      rw [e, List.filter_cons_of_neg (by rw [h]; simp)]
      exact ih
    | some t =>
      have e : (runN v (begun st).2 ns).map (fun t => ((begun st).1, t)) = some (st, t) := by
        show (runN v (st.1, st.1 - st.2) ns).map _ = _
        rw [h]; rfl
      rw [e, List.filter_cons_of_pos (by rw [h]; rfl), List.map_cons, ih]
theorem fit_len {v : Dv} (ok : v.Ok) (ns : List (Int × Int)) : (fitL v ns).length ≤ 576 := by
  unfold fitL
  rw [fit_run]
  refine Nat.le_trans (List.length_filterMap_le _ _) ?_
  rw [List.length_map]
  exact startsL_len ok
theorem fitL_succ (v : Dv) (ns : List (Int × Int)) {i : Nat} {q : Int × Int} (h : ns[i]? = some q) : fitL v (ns.take (i + 1)) = seenL v (fitL v (ns.take i)) q := by
  unfold fitL
  rw [List.take_add_one, h, Option.toList_some, List.foldl_append]
  rfl
/-- from seven rounds of the ground further up -/
theorem start_plc {v : Dv} (ok : v.Ok) (st : Int × Int) : plc v (st.1, st.1 - st.2) = plc v (st.1 + 7 * v.1.p, st.1 + 7 * v.1.p - st.2) := by
  unfold plc
  have e1 : (st.1 + 7 * v.1.p) % v.1.p = st.1 % v.1.p := by rw [Int.mul_comm, Int.add_mul_emod_self_left]
  show (st.1 % v.1.p, (st.1 - (st.1 - st.2)) % v.2.p) = ((st.1 + 7 * v.1.p) % v.1.p, (st.1 + 7 * v.1.p - (st.1 + 7 * v.1.p - st.2)) % v.2.p)
  rw [e1, show st.1 - (st.1 - st.2) = st.1 + 7 * v.1.p - (st.1 + 7 * v.1.p - st.2) by omega]
end PD

/-! PD53: there are starts -/
namespace PD
open PySem PySem.Spec PyProof.Rows L2 Evl
theorem startsL_ne {v : Dv} (ok : v.Ok) : startsL v ≠ [] := fun e => by
  obtain ⟨t0, r0, et⟩ : ∃ t0 r0, v.1.ts = t0 :: r0 := by
    cases e : v.1.ts with
    | nil => exact absurd e ok.1.ne
    | cons a r => exact ⟨a, r, rfl⟩
  have tl := ok.1.low t0 (by rw [et]; exact List.mem_cons_self)
  have th := ok.1.high t0 (by rw [et]; exact List.mem_cons_self)
  have q1 := ok.2.p1
  have e0 : ((t0.toNat : Nat) : Int) = t0 := by omega
  have hh : held v (((t0.toNat : Nat) : Int), ((t0.toNat : Nat) : Int) - ((0 : Nat) : Int)) = true := by
    rw [e0]
    unfold held
    have : caught v.1 t0 = true := by
      unfold caught
      rw [Int.emod_eq_of_lt tl th, et]
      exact decide_eq_true List.mem_cons_self
    show (caught v.1 t0 || _) = true
    rw [this, Bool.true_or]
  have m : (((t0.toNat : Nat) : Int), ((0 : Nat) : Int)) ∈ startsL v := by
    unfold startsL startsN
    refine List.mem_flatMap.mpr ⟨t0.toNat, List.mem_range.mpr (by omega), ?_⟩
    unfold rowL
    refine List.mem_map.mpr ⟨0, List.mem_filter.mpr ⟨List.mem_range.mpr (by omega), hh⟩, rfl⟩
  rw [e] at m
  cases m
end PD

/-! PD54: is not None; sizes of lists of pairs; places behind looks -/
namespace PD
open PySem PySem.Spec PyProof.Rows L2 Evl
section
variable {c : Cn} {K : PySem.W.Frag} {ds : DS} {pl : List D} {Φ : W → List D → Prop}
theorem os_notN {d : D} {p2 : List D} (h : Φ (.d (.bool (!nonB d))) p2) : OpS c (fun x y H Q => y = .non ∧ Q (.bl (!decide (x = .non))) H) ds d .none p2 Φ := fun G σ H v u hs hv hu Q q => by
  have e : u = .non := by
    rcases hu with hu | ⟨p, vs, xs, rfl, e, _⟩
    · cases hu; rfl
    · cases e
  have e2 : decide (v = .non) = nonB d := by
    rcases hv with hv | ⟨p, vs, xs, rfl, rfl, _⟩
    · cases hv <;> rfl
    · rfl
  refine ⟨e, ?_⟩
  rw [e2]
  exact q _ G H (.d _) p2 hs (Ex.refl _) (R.bl _) h
end
theorem cntA_pairs : ∀ qs : List (Int × Int), cntA (qs.map Sv.d) = 3 * qs.length
  | [] => rfl
  | q :: qs => by
    show cnt (Sv.d q) + cntA (qs.map Sv.d) = _
    rw [cntA_pairs qs, Sv.cnt, List.length_cons]
    omega
theorem cnt_pairs (qs : List (Int × Int)) : cnt (.list (qs.map Sv.d)) = 3 * qs.length + 1 := by
  show cntA _ + 1 = _
  rw [cntA_pairs]
theorem ga_u2 {c : Cn} {K : PySem.W.Frag} {n j1 j2 : Nat} (hn : n = 2) (x y : D) : GA c (gTup K n (gCons (gName j1) (gCons (gName j2) gNil))) (.tuple [x, y]) (u2 j1 j2 (.tuple [x, y])) :=
  ga_tup2 (u1 := fun ds => ds.set j1 (some (.d x))) (u2 := fun ds => ds.set j2 (some (.d y))) hn (ga_name j1 x) (ga_name j2 y)
/-! ### places -/
def stepS (v : Dv) (ss : List Sv) (q : Int × Int) : List Sv := (ss.filter fun s => decide ((mv v s q.1).1 - s.1 = q.2)).map fun s => mv v s q.1
theorem stepS_app (v : Dv) (bs cs : List Sv) (q : Int × Int) : stepS v (bs ++ cs) q = stepS v bs q ++ stepS v cs q := by
  unfold stepS
  rw [List.filter_append, List.map_append]
theorem stepS_yes (v : Dv) {b : Sv} {q : Int × Int} (h : (mv v b q.1).1 - b.1 = q.2) : stepS v [b] q = [mv v b q.1] := by
  unfold stepS
  rw [List.filter_cons_of_pos (p := fun b : Sv => decide ((mv v b q.1).1 - b.1 = q.2)) (decide_eq_true h)]
  rfl
theorem stepS_no (v : Dv) {b : Sv} {q : Int × Int} (h : ¬ (mv v b q.1).1 - b.1 = q.2) : stepS v [b] q = [] := by
  unfold stepS
  rw [List.filter_cons_of_neg (p := fun b : Sv => decide ((mv v b q.1).1 - b.1 = q.2)) (by simpa using h)]
  rfl
theorem stepS_len (v : Dv) (ss : List Sv) (q : Int × Int) : (stepS v ss q).length ≤ ss.length := by
  unfold stepS
  rw [List.length_map]
  exact List.length_filter_le _ _
theorem step_run (v : Dv) : ∀ (ns : List (Int × Int)) (ss : List Sv), ns.foldl (stepS v) ss = ss.filterMap fun s => runN v s ns
  | [], ss => by
    show ss = ss.filterMap fun s => some s
    exact (List.filterMap_some ..).symm
  | q :: r, ss => by
    show r.foldl (stepS v) (stepS v ss q) = _
    rw [step_run v r]
    unfold stepS
    induction ss with
    | nil => rfl
    | cons b bs ih =>
      by_cases h : (mv v b q.1).1 - b.1 = q.2
      · rw [List.filter_cons_of_pos (p := fun b : Sv => decide ((mv v b q.1).1 - b.1 = q.2)) (decide_eq_true h), List.map_cons, List.filterMap_cons, List.filterMap_cons]
        have e : runN v b (q :: r) = runN v (mv v b q.1) r := if_pos h
        rw [e, ih]
      · rw [List.filter_cons_of_neg (p := fun b : Sv => decide ((mv v b q.1).1 - b.1 = q.2)) (by simpa using h), List.filterMap_cons]
        have e : runN v b (q :: r) = none := if_neg h
        rw [e, ih]
/-- no start fits, told by bars or by places elsewhere -/
theorem fit_nil {v : Dv} (ok : v.Ok) (ns : List (Int × Int)) : fitL v ns = [] ↔ ns.foldl (stepS v) ((startsL v).map fun st => (st.1 + 7 * v.1.p, st.1 + 7 * v.1.p - st.2)) = [] := by
  rw [step_run, List.filterMap_eq_nil_iff]
  unfold fitL
  rw [fit_run, List.filterMap_eq_nil_iff]
  have key : ∀ st : Int × Int, (runN v (st.1, st.1 - st.2) ns).isSome = (runN v (st.1 + 7 * v.1.p, st.1 + 7 * v.1.p - st.2) ns).isSome := fun st => runN_plc ok ns (start_plc ok st)
  constructor
  · intro h s hs
    obtain ⟨st, h1, rfl⟩ := List.mem_map.mp hs
    have h2 := h (begun st) (List.mem_map.mpr ⟨st, h1, rfl⟩)
    have h3 : runN v (st.1, st.1 - st.2) ns = none := Option.map_eq_none_iff.mp h2
    have k := key st
    rw [h3] at k
    cases e : runN v (st.1 + 7 * v.1.p, st.1 + 7 * v.1.p - st.2) ns with
    | none => rfl
    | some t => rw [e] at k; cases k
  · intro h b hb
    obtain ⟨st, h1, rfl⟩ := List.mem_map.mp hb
    have h2 := h _ (List.mem_map.mpr ⟨st, h1, rfl⟩)
    have k := key st
    rw [h2] at k
    cases e : runN v (st.1, st.1 - st.2) ns with
    | none =>
      show (runN v (st.1, st.1 - st.2) ns).map _ = none
      rw [e]; rfl
    | some t => rw [e] at k; cases k
theorem stepS_succ (v : Dv) (ss : List Sv) (ns : List (Int × Int)) {i : Nat} {q : Int × Int} (h : ns[i]? = some q) : (ns.take (i + 1)).foldl (stepS v) ss = stepS v ((ns.take i).foldl (stepS v) ss) q := by
  rw [List.take_add_one, h, Option.toList_some, List.foldl_append]
  rfl
theorem foldS_len (v : Dv) : ∀ (ns : List (Int × Int)) (ss : List Sv), (ns.foldl (stepS v) ss).length ≤ ss.length
  | [], ss => Nat.le_refl _
  | q :: r, ss => Nat.le_trans (foldS_len v r (stepS v ss q)) (stepS_len v ss q)
end PD

/-! PD55: == [] -/
namespace PD
open PySem PySem.Spec PyProof.Rows L2 Evl
section
variable {c : Cn} {K : PySem.W.Frag} {ds : DS} {pl : List D} {Φ : W → List D → Prop}
theorem os_eqNil {ts : List D} {p2 : List D} (ok : okD 20 (.list ts)) (h : Φ (.d (.bool (decide (ts = [])))) p2) : OpS c (rEqU K) ds (.list ts) (.list []) p2 Φ :=
  os_eqUD (shaped_of ok) rfl (by
    rw [eqv_nil]
    exact h)
end
/-- the first look with which none fits is one -/
theorem due_uniq {v : Dv} {ns : List (Int × Int)} {d e : D} (h1 : (d = .none ∧ ∀ i, i < ns.length → fitL v (ns.take (i + 1)) ≠ []) ∨ ∃ i : Nat, i < ns.length ∧ d = .int (i : Int) ∧ fitL v (ns.take (i + 1)) = [] ∧ ∀ j, j < i → fitL v (ns.take (j + 1)) ≠ [])
    (h2 : (e = .none ∧ ∀ i, i < ns.length → fitL v (ns.take (i + 1)) ≠ []) ∨ ∃ i : Nat, i < ns.length ∧ e = .int (i : Int) ∧ fitL v (ns.take (i + 1)) = [] ∧ ∀ j, j < i → fitL v (ns.take (j + 1)) ≠ []) : e = d := by
  rcases h1 with ⟨rfl, a⟩ | ⟨i, hi, rfl, zi, lo⟩
  · rcases h2 with ⟨rfl, _⟩ | ⟨j, hj, rfl, zj, _⟩
    · rfl
    · exact absurd zj (a j hj)
  · rcases h2 with ⟨rfl, b⟩ | ⟨j, hj, rfl, zj, lo2⟩
    · exact absurd zi (b i hi)
    · have : i = j := by
        rcases Nat.lt_trichotomy i j with z | z | z
        · exact absurd zi (lo2 i z)
        · exact z
        · exact absurd zj (lo j z)
      rw [this]
end PD

/-! PD56: rows of spans; joined tuples; the script compared; a pool made in a call -/
namespace PD
open PySem PySem.Spec PyProof.Rows L2 Evl
theorem com_uniq {v : Dv} {L M : Int} (c : Com v L) (lc : ∀ x : Int, x % v.1.p = 0 → x % v.2.p = 0 → x % L = 0) (d : Com v M) (ld : ∀ x : Int, x % v.1.p = 0 → x % v.2.p = 0 → x % M = 0) : L = M := by
  have h1 := lc M d.d1 d.d2
  have h2 := ld L c.d1 c.d2
  have a := Int.le_of_emod_eq_zero' d.pos c.pos h1
  have b := Int.le_of_emod_eq_zero' c.pos d.pos h2
  omega
theorem eqv_two (a b c d : Int) : PyData.eqv (.tuple [.int a, .int b]) (.tuple [.int c, .int d]) = decide ((a, b) = (c, d)) := by
  have e : PyData.eqv (.tuple [.int a, .int b]) (.tuple [.int c, .int d]) = ((a == c) && ((b == d) && true)) := rfl
  rw [e]
  by_cases h1 : a = c <;> by_cases h2 : b = d <;> simp [h1, h2]
/-- the mean rise of pumping, as a function -/
noncomputable def mOf (v : Dv) (arm z : Int) : Int × Int := by
  classical exact if h : ∃ q : Int × Int, Mean v [z, -z] arm q.1 q.2 then Classical.choose h else (0, 1)
theorem mOf_mean {v : Dv} (ok : v.Ok) (arm z : Int) : Mean v [z, -z] arm (mOf v arm z).1 (mOf v arm z).2 := by
  obtain ⟨t, b, m⟩ := mean_ex ok [z, -z] arm
  have h : ∃ q : Int × Int, Mean v [z, -z] arm q.1 q.2 := ⟨(t, b), m⟩
  unfold mOf
  rw [dif_pos h]
  exact Classical.choose_spec h
theorem mOf_eq {v : Dv} (ok : v.Ok) {arm z t b : Int} (m : Mean v [z, -z] arm t b) : (t, b) = mOf v arm z := by
  obtain ⟨e1, e2⟩ := m.uniq ok (mOf_mean ok arm z)
  rw [e1, e2]
/-- rows of the spans from 1 to n, and the last mean -/
noncomputable def rowsF (v : Dv) (arm : Int) : Nat → List (Int × Int × Int) × (Int × Int)
  | 0 => ([], (0, 1))
  | n + 1 => if mOf v arm ((n : Int) + 1) = (rowsF v arm n).2 then rowsF v arm n else ((rowsF v arm n).1 ++ [((n : Int) + 1, mOf v arm ((n : Int) + 1))], mOf v arm ((n : Int) + 1))
theorem rowsF_no {v : Dv} {arm : Int} {n : Nat} (h : mOf v arm ((n : Int) + 1) = (rowsF v arm n).2) : rowsF v arm (n + 1) = rowsF v arm n := if_pos h
theorem rowsF_yes {v : Dv} {arm : Int} {n : Nat} (h : ¬ mOf v arm ((n : Int) + 1) = (rowsF v arm n).2) : rowsF v arm (n + 1) = ((rowsF v arm n).1 ++ [((n : Int) + 1, mOf v arm ((n : Int) + 1))], mOf v arm ((n : Int) + 1)) := if_neg h
theorem rowsF_len (v : Dv) (arm : Int) : ∀ n : Nat, (rowsF v arm n).1.length ≤ n
  | 0 => Nat.le_refl _
  | n + 1 => by
    have := rowsF_len v arm n
    by_cases h : mOf v arm ((n : Int) + 1) = (rowsF v arm n).2
    · rw [rowsF_no h]; omega
    · rw [rowsF_yes h, List.length_append]
      exact Nat.succ_le_succ this
abbrev rowD (q : Int × Int × Int) : D := .tuple [.int q.1, .int q.2.1, .int q.2.2]
theorem rowsF_in {v : Dv} (ok : v.Ok) {arm : Int} : ∀ (n : Nat), ∀ q ∈ (rowsF v arm n).1, 1 ≤ q.1 ∧ q.1 ≤ (n : Int) ∧ Mean v [q.1, -q.1] arm q.2.1 q.2.2
  | 0, q, h => nomatch h
  | n + 1, q, h => by
    by_cases e : mOf v arm ((n : Int) + 1) = (rowsF v arm n).2
    · rw [rowsF_no e] at h
      have := rowsF_in ok n q h
      exact ⟨this.1, by omega, this.2.2⟩
    · rw [rowsF_yes e] at h
      rcases List.mem_append.mp h with z | z
      · have := rowsF_in ok n q z
        exact ⟨this.1, by omega, this.2.2⟩
      · rw [List.mem_singleton.mp z]
        exact ⟨by show (1 : Int) ≤ (n : Int) + 1; omega, by show (n : Int) + 1 ≤ _; omega, mOf_mean ok arm _⟩
theorem rowsF_last {v : Dv} (ok : v.Ok) {arm : Int} : ∀ n : Nat, (rowsF v arm n).2 = (0, 1) ∨ ∃ z : Int, 1 ≤ z ∧ z ≤ (n : Int) ∧ (rowsF v arm n).2 = mOf v arm z
  | 0 => .inl rfl
  | n + 1 => by
    by_cases e : mOf v arm ((n : Int) + 1) = (rowsF v arm n).2
    · rw [rowsF_no e]
      rcases rowsF_last ok n with z | ⟨z, h1, h2, h3⟩
      · exact .inl z
      · exact .inr ⟨z, h1, by omega, h3⟩
    · rw [rowsF_yes e]
      exact .inr ⟨(n : Int) + 1, by omega, by omega, rfl⟩
section
variable {c : Cn} {K : PySem.W.Frag} {ds : DS} {pl : List D} {Φ : W → List D → Prop} {ta tb te : TE} {tr : TA} {E : EE}
theorem os_catT {xs ys : List D} {p2 : List D} (h0 : xs ≠ []) (h1 : ys ≠ []) (hl : xs.length + ys.length ≤ sizeLine) (h : Φ (.d (.tuple (xs ++ ys))) p2) : OpS c (rCatT K) ds (.tuple xs) (.tuple ys) p2 Φ := fun G σ H v u hs hv hu Q q => by
  rcases hv with hv | ⟨p, vs, zs, _, e, _⟩
  · rcases hu with hu | ⟨p, vs, zs, _, e, _⟩
    · cases hv with
      | @tup a vs _ a1 b1 =>
      cases hu with
      | @tup a' us _ a2 b2 =>
      refine ⟨a, a', vs, us, rfl, rfl, SqT.of (hs.sub _ _ a1), SqT.of (hs.sub _ _ a2), fun z => h0 ?_, by rw [b1.len, b2.len]; exact hl, fun z => absurd ?_ h1, fun _ l hln => ?_⟩
      · have := b1.len
        rw [z] at this
        exact List.length_eq_zero_iff.mp this.symm
      · have := b2.len
        rw [z] at this
        exact List.length_eq_zero_iff.mp this.symm
      · have n := hs.none_of hln
        exact q _ _ _ (.d _) p2 (hs.newD hln) (Ex.new n.1) (show R _ (.ref l) (.tuple (xs ++ ys)) from .tup upd_same ((b1.app b2).up (Ex.new n.1))) h
    · cases e
  · cases e
/-- xs, x, y = [], e, f -/
theorem ws_par3O {i j l : Nat} (h : ∀ pin, WE { c with pin := pin } ta ds pl (isD fun x p1 => WE { c with pin := pin } tb ds p1 (isD fun y p2 => E.nx (((ds.set i (some (.o []))).set j (some (.d x))).set l (some (.d y))) p2))) :
    WS c (tPar3 i j l (tCons (tLst tNil) (tCons ta (tCons tb tNil)))) ds pl E := fun G σ H hs D' f => by
  refine ⟨Nat.zero_le _, fun p hp => ?_⟩
  obtain ⟨n1, n2, n3, n4, n5⟩ := hs.none_of hp
  have h0 := hs.newH (o := .lst []) hp
  have fd := df_new hs hp
  have hw := h0.to_with fd upd_same n1
  refine h _ G σ _ hw _ ?_
  rintro v G1 H1 w p1 h1 e1 f1 g1
  match w, f1, g1 with
  | .d x, f1, g1 =>
    refine g1 G1 σ H1 h1 _ ?_
    rintro u G2 H2 w2 p2 h2 e2 f2 g2
    match w2, f2, g2 with
    | .d y, f2, g2 =>
      have b := h0.back fd h2 (e1.trans e2) fun i xs q => ⟨q, rfl⟩
      have hD := h2.pin p _ with_at
      have gD := h2.gn p _ with_at
      have b2 := b.set (i := i) (v := .ref p) (w := .o []) ⟨p, [], rfl, hD, .nil, gD, n5, n3, n4, n2⟩ fun xs z j ys q1 q2 => fd.ne j ys p q1 q2 rfl
      have b3 := (b2.set (i := j) (w := .d x) (R.up f1 e2) fun xs z => by cases z).set (i := l) (w := .d y) f2 fun xs z => by cases z
      exact ⟨.ref p, v, u, rfl, f.nx G2 _ H2 _ p2 b3 (e1.trans e2) g2⟩
/-! ### the script compared -/
theorem ints_lay : ∀ ns : List Int, PyData.canLayAll0 (ns.map PyData.int) = true
  | [] => rfl
  | n :: ns => by
    rw [List.map_cons]
    show (PyData.canLay0 (.int n) && PyData.canLayAll0 (ns.map PyData.int)) = true
    rw [ints_lay ns]
    rfl
theorem ints_depth : ∀ ns : List Int, PyData.depthAll (ns.map PyData.int) = 0
  | [] => rfl
  | n :: ns => by
    rw [List.map_cons]
    show max (PyData.depth (.int n)) (PyData.depthAll (ns.map PyData.int)) = 0
    rw [ints_depth ns]
    rfl
theorem ints_shaped (ns : List Int) : SeqAt.shaped (.list (ns.map PyData.int)) = true := by
  unfold SeqAt.shaped
  have h1 : PyData.canLay0 (.list (ns.map PyData.int)) = true := by simpa only [PyData.canLay0] using ints_lay ns
  have h2 : PyData.depth (.list (ns.map PyData.int)) ≤ 64 := by
    simp only [PyData.depth, ints_depth]
    decide
  rw [h1, decide_eq_true h2]
  rfl
theorem ints_dp {G : Hp} : ∀ ns : List Int, DpAll K G (ns.map V.int) (ns.map PyData.int)
  | [] => .nil
  | n :: ns => .cons (.int n) (ints_dp ns)
/-- script == [] -/
theorem we_eqScr {i : Nat} {a : Addr} {ns : List Int} (hS : Scr K c a ns) (hi : ds[i]? = some (some (.v (.ref a)))) (h : Φ (.d (.bool (decide (ns = [])))) pl) : WE c (tOp (rEqU K) (tVar i) (tLst tNil)) ds pl Φ := fun G σ H hs Q q => by
  obtain ⟨v, e1, e2⟩ := hs.slots i _ hi
  have e2' : v = .ref a := e2
  subst e2'
  refine ⟨_, e1, Nat.zero_le _, fun p hp => .inl ⟨.list (ns.map PyData.int), .list [], ?_, .lst (SqL.of upd_same) .nil, ints_shaped ns, rfl, ?_⟩⟩
  · exact .lst (hS.at (hs.newH (o := .lst []) hp)) (ints_dp ns)
  · have e : PyData.eqv (.list (ns.map PyData.int)) (.list []) = decide (ns = []) := by
      rw [eqv_nil]
      cases ns with
      | nil => rfl
      | cons a r => rfl
    rw [e]
    exact q _ G _ (.d _) pl (hs.newH hp) (Ex.refl _) (R.bl _) h
/-! ### f(mk(script, e), ..) -/
theorem we_mkcall {F : List Int → Int → (List D → Prop) → Prop} {F2 : List D → List D → (D → List D → Prop) → Prop} {j : Nat} {a : Addr} {ns : List Int} {E1 E2 : XK} {ti : TE} (hc : c.pool = none) (hS : Scr K c a ns) (hj : ds[j]? = some (some (.v (.ref a)))) (n : Int)
    (hti : WE c ti ds [] fun w p => w = .d (.int n) ∧ p = [])
    (mono : ∀ k k', F ns n k → (∀ d, k d → k' d) → F ns n k')
    (mono2 : ∀ xs ys k k', F2 xs ys k → (∀ d p, k d p → k' d p) → F2 xs ys k')
    (h : F ns n fun xs => ∀ p, WA { c with pool := some p } tr ds xs fun ys p1 => F2 p1 ys fun d _ => Φ (.d d) []) :
    WE c (tCall (spO F2) [] E1 (tCons (tCall (spMk K F) [] E2 (tCons (tVar j) (tCons ti tNil))) tr)) ds [] Φ := fun G σ H hs Q q => by
  obtain ⟨v, e1, e2⟩ := hs.slots j _ hj
  have e2' : v = .ref a := e2
  subst e2'
  refine ⟨_, e1, hti G σ H hs _ ?_⟩
  rintro u G1 H1 w p1 h1 e1' f1 ⟨rfl, rfl⟩
  cases f1
  refine ⟨G1, a, ns, n, rfl, h1.sub, hS.at h1, mono _ _ h fun xs hx p us G' H' a1 a2 a3 a4 a5 a6 a7 a8 => ?_⟩
  obtain ⟨n1, n2, n3, n4, n5⟩ := h1.none_of a5
  have b1 := h1.ext a1 a2 a3 a4
  have b2 : HS { c with pool := some p } G' σ H' ds xs := b1.topool hc a7 a8 a6 n5 n3 n2 fun i ys q1 q2 => by
    obtain ⟨v, e2, p', us', rfl, b1, _⟩ := h1.slots i _ q1
    rw [q2] at e2
    have ep : p = p' := V.ref.inj (Option.some.inj (Option.some.inj e2))
    rw [← ep, a5] at b1
    cases b1
  refine hx p G' σ H' b2 _ fun vs2 G2 H2 ys p1 h2 e2 f2 g2 => ?_
  show spO F2 ((V.ref p :: vs2) ++ []) H2 Q E1
  rw [List.append_nil]
  have hp : ({ c with pool := some p } : Cn).pool = some p := rfl
  obtain ⟨d1, d2, us2, d3, d4⟩ := h2.pl p hp
  refine ⟨G2, p, vs2, us2, p1, ys, rfl, h2.sub, h2.gq p hp, d3, d4, f2, mono2 _ _ _ _ g2 fun d p2 hd v G3 H3 us' k1 k2 k3 k4 k5 k6 k7 => ?_⟩
  have h3 : HS { c with pool := some p } G3 σ H3 ds p2 := by
    refine ⟨k2, fun a z => ?_, fun a z => ?_, fun a o z => k4 _ _ (h2.pin a o z) (h2.gn a o z), fun a o q1 q2 => k1 _ _ (fun z => q1 (z ▸ hp)) (h2.keep a o q1 q2), fun p' z => ?_, fun a o z => k1 _ _ (fun z' => by rw [z', d2] at z; cases z) (h2.pin a o z), fun a z => ?_, h2.len, fun i w z => ?_, h2.own⟩
    · obtain ⟨o, z'⟩ := h2.hid a z
      exact k4 _ _ z' (h2.gh a z)
    · obtain ⟨_, _, us0, z', _⟩ := h2.pl a z
      exact k4 _ _ z' (h2.gq a z)
    · have e : p' = p := by rw [hp] at z; exact (Option.some.inj z).symm
      subst e
      exact ⟨d1, d2, us', k5, k6⟩
    · obtain ⟨o, z'⟩ := h2.hid a z
      exact ⟨o, k1 _ _ (fun e => d1 (e ▸ z)) z'⟩
    · obtain ⟨v, c1, c2⟩ := h2.slots i w z
      exact ⟨v, c1, c2.up k3 fun q vs d1 d2 d3 d4 d5 d6 => ⟨k1 _ _ (fun e => d4 (e ▸ hp)) d6, k4 _ _ d6 d1⟩⟩
  exact q v G3 H3 (.d d) [] (h3.offpool hc n5) (e1'.trans (a3.trans (e2.trans k3))) k7 hd
end
end PD

/-! PD57: how many spans have rows -/
namespace PD
open PySem PySem.Spec PyProof.Rows L2 Evl
def lcmV (v : Dv) : Int := ((Nat.lcm v.1.p.natAbs v.2.p.natAbs : Nat) : Int)
def spanN (v : Dv) : Nat := (lcmV v + max v.1.p v.2.p).toNat
theorem com_lcmV {v : Dv} (ok : v.Ok) : Com v (lcmV v) ∧ ∀ x : Int, x % v.1.p = 0 → x % v.2.p = 0 → x % lcmV v = 0 := by
  obtain ⟨_, _, e, cm, lc⟩ := com_quot ok
  rw [e] at cm lc
  exact ⟨cm, lc⟩
theorem spanN_eq {v : Dv} (ok : v.Ok) {L : Int} (c : Com v L) (lc : ∀ x : Int, x % v.1.p = 0 → x % v.2.p = 0 → x % L = 0) : L + max v.1.p v.2.p = (spanN v : Int) ∧ spanN v ≤ 600 := by
  obtain ⟨d, ld⟩ := com_lcmV ok
  have e := com_uniq c lc d ld
  have p0 := ok.1.p1
  have p1 := ok.1.p24
  have p2 := ok.2.p24
  have L0 := d.pos
  have L5 := d.le
  unfold spanN
  omega
theorem cntA_rows : ∀ qs : List (Int × Int × Int), cntA (qs.map rowD) = 4 * qs.length
  | [] => rfl
  | q :: qs => by
    show cnt (rowD q) + cntA (qs.map rowD) = _
    rw [cntA_rows qs, show cnt (rowD q) = 4 by rfl, List.length_cons]
    omega
theorem cnt_rows (qs : List (Int × Int × Int)) : cnt (.list (qs.map rowD)) = 4 * qs.length + 1 := by
  show cntA _ + 1 = _
  rw [cntA_rows]
end PD

/-! PD58: rows of two written devices -/
namespace PD
open PySem PySem.Spec PyProof.Rows L2 Evl
def rowsC (M : List (Int × Int)) : Nat → List (Int × Int × Int) × (Int × Int)
  | 0 => ([], (0, 1))
  | n + 1 => if M.getD n (0, 1) = (rowsC M n).2 then rowsC M n else ((rowsC M n).1 ++ [((n : Int) + 1, M.getD n (0, 1))], M.getD n (0, 1))
theorem rowsC_eq {v : Dv} (ok : v.Ok) {arm : Int} {M : List (Int × Int)} : ∀ n : Nat, (∀ i, i < n → Mean v [(i : Int) + 1, -((i : Int) + 1)] arm (M.getD i (0, 1)).1 (M.getD i (0, 1)).2) → rowsF v arm n = rowsC M n
  | 0, _ => rfl
  | n + 1, h => by
    have e := rowsC_eq ok n fun i hi => h i (by omega)
    have m := (mOf_eq ok (h n (Nat.lt_succ_self n))).symm
    show (if mOf v arm ((n : Int) + 1) = (rowsF v arm n).2 then rowsF v arm n else ((rowsF v arm n).1 ++ [((n : Int) + 1, mOf v arm ((n : Int) + 1))], mOf v arm ((n : Int) + 1))) = (if M.getD n (0, 1) = (rowsC M n).2 then rowsC M n else ((rowsC M n).1 ++ [((n : Int) + 1, M.getD n (0, 1))], M.getD n (0, 1)))
    rw [m, e]
def cycB (v : Dv) (z : Int) (n j : Nat) (m : Int × Int) : Bool :=
  decide (j < n) && decide (plc v (rp v [z, -z] (0, 0) j) = plc v (rp v [z, -z] (0, 0) n)) && decide (∀ k, k < n → ∀ i, i < k → plc v (rp v [z, -z] (0, 0) i) ≠ plc v (rp v [z, -z] (0, 0) k)) &&
  decide ((rp v [z, -z] (0, 0) n).1 - (rp v [z, -z] (0, 0) j).1 = m.1 * (Nat.gcd ((rp v [z, -z] (0, 0) n).1 - (rp v [z, -z] (0, 0) j).1).natAbs ((n : Int) - (j : Int)).natAbs : Nat) ∧ (n : Int) - (j : Int) = m.2 * (Nat.gcd ((rp v [z, -z] (0, 0) n).1 - (rp v [z, -z] (0, 0) j).1).natAbs ((n : Int) - (j : Int)).natAbs : Nat))
theorem cycB_mean {v : Dv} (ok : v.Ok) {z : Int} {n j : Nat} {m : Int × Int} (h : cycB v z n j m = true) : Mean v [z, -z] 0 m.1 m.2 := by
  unfold cycB at h
  simp only [Bool.and_eq_true, decide_eq_true_eq] at h
  obtain ⟨⟨⟨h1, h2⟩, h3⟩, h4⟩ := h
  exact Mean.of ok (cyc_of h1 h2 h3) h4
theorem rows_wide : (rowsF (c103, c10) 0 (spanN (c103, c10))).1 = [(10, 10, 1), (20, 20, 1)] := by
  have e : rowsF (c103, c10) 0 20 = rowsC [(0, 1), (0, 1), (0, 1), (0, 1), (0, 1), (0, 1), (0, 1), (0, 1), (0, 1), (10, 1), (10, 1), (10, 1), (10, 1), (10, 1), (10, 1), (10, 1), (10, 1), (10, 1), (10, 1), (20, 1)] 20 := rowsC_eq ok_wide 20 fun i hi => by
    have h : ∀ i : Nat, i < 20 → cycB (c103, c10) ((i : Int) + 1) ([1, 1, 2, 2, 2, 2, 2, 2, 2, 1, 1, 1, 2, 2, 2, 2, 2, 2, 2, 1].getD i 0) ([0, 0, 1, 1, 1, 1, 1, 1, 1, 0, 0, 0, 1, 1, 1, 1, 1, 1, 1, 0].getD i 0) (([(0, 1), (0, 1), (0, 1), (0, 1), (0, 1), (0, 1), (0, 1), (0, 1), (0, 1), (10, 1), (10, 1), (10, 1), (10, 1), (10, 1), (10, 1), (10, 1), (10, 1), (10, 1), (10, 1), (20, 1)] : List (Int × Int)).getD i (0, 1)) = true := by decide +kernel
    exact cycB_mean ok_wide (h i hi)
  rw [show spanN (c103, c10) = 20 by decide +kernel, e]
  decide +kernel
theorem rows_nar : (rowsF (c3, c5) 0 (spanN (c3, c5))).1 = [(7, 5, 1), (10, 15, 2), (12, 10, 1), (15, 15, 1)] := by
  have e : rowsF (c3, c5) 0 20 = rowsC [(0, 1), (0, 1), (0, 1), (0, 1), (0, 1), (0, 1), (5, 1), (5, 1), (5, 1), (15, 2), (15, 2), (10, 1), (10, 1), (10, 1), (15, 1), (15, 1), (15, 1), (15, 1), (15, 1), (15, 1)] 20 := rowsC_eq ok_nar 20 fun i hi => by
    have h : ∀ i : Nat, i < 20 → cycB (c3, c5) ((i : Int) + 1) ([1, 1, 2, 2, 2, 3, 3, 4, 4, 2, 2, 3, 4, 4, 1, 1, 1, 2, 2, 2].getD i 0) ([0, 0, 1, 1, 1, 2, 0, 1, 1, 0, 0, 0, 1, 1, 0, 0, 0, 1, 1, 1].getD i 0) (([(0, 1), (0, 1), (0, 1), (0, 1), (0, 1), (0, 1), (5, 1), (5, 1), (5, 1), (15, 2), (15, 2), (10, 1), (10, 1), (10, 1), (15, 1), (15, 1), (15, 1), (15, 1), (15, 1), (15, 1)] : List (Int × Int)).getD i (0, 1)) = true := by decide +kernel
    exact cycB_mean ok_nar (h i hi)
  rw [show spanN (c3, c5) = 20 by decide +kernel, e]
  decide +kernel
abbrev c24x : Comb := ⟨24, [0, 7, 8]⟩
abbrev c23x : Comb := ⟨23, [5, 11]⟩
theorem ok_great : Dv.Ok (c24x, c23x) := ⟨⟨by decide, by decide, by decide, by decide, by decide, by decide⟩, ⟨by decide, by decide, by decide, by decide, by decide, by decide⟩⟩
end PD

/-! PD59: two bars over one hand; places of three numbers in a dict -/
namespace PD
open PySem PySem.Spec PyProof.Rows L2 Evl
section
variable {v : Dv} {ms : List Int} {palm : Int}
def hx (v : Dv) (ms : List Int) (palm : Int) (x : Int) (i : Nat) : Int := (rp v ms (x, palm) i).1
def gp (v : Dv) (ms : List Int) (palm x y : Int) (i : Nat) : Int := hx v ms palm y i - hx v ms palm x i
theorem hx_eta (s0 : ms.sum = 0) (x : Int) (i : Nat) : rp v ms (x, palm) i = (hx v ms palm x i, palm) := by
  ext
  · rfl
  · show (rp v ms (x, palm) i).2 = palm
    rw [rp_hand, s0, Int.mul_zero, Int.add_zero]
theorem hx_mono (ok : v.Ok) {x y : Int} (h : x ≤ y) (i : Nat) : hx v ms palm x i ≤ hx v ms palm y i := rp_mono (s := (x, palm)) (t := (y, palm)) ok ms h rfl i
theorem hx_up (ok : v.Ok) {L : Int} (cm : Com v L) (x k : Int) (i : Nat) : hx v ms palm (x + L * k) i = hx v ms palm x i + L * k := by
  have e := rp_shift ok ms (cm.plc x palm k) i
  have := congrArg Prod.fst e
  show (rp v ms (x + L * k, palm) i).1 = (rp v ms (x, palm) i).1 + L * k
  rw [this]
  show (rp v ms (x, palm) i).1 + (x + L * k - x) = _
  omega
theorem gp_bound (ok : v.Ok) {L : Int} (cm : Com v L) (x y : Int) (i : Nat) : L * ((y - x) / L) ≤ gp v ms palm x y i ∧ gp v ms palm x y i ≤ L * ((y - x) / L) + L := by
  have L0 := cm.pos
  have e := Int.mul_ediv_add_emod (y - x) L
  have e0 := Int.emod_nonneg (y - x) (show L ≠ 0 by omega)
  have e1 := Int.emod_lt_of_pos (y - x) L0
  have h1 := hx_mono (ms := ms) (palm := palm) ok (show x + L * ((y - x) / L) ≤ y by omega) i
  have h2 := hx_mono (ms := ms) (palm := palm) ok (show y ≤ x + L * ((y - x) / L + 1) by rw [Int.mul_add, Int.mul_one]; omega) i
  rw [hx_up ok cm] at h1 h2
  rw [Int.mul_add, Int.mul_one] at h2
  unfold gp
  omega
/-- the place of two bars -/
def kyT (v : Dv) (ms : List Int) (palm x y : Int) (i : Nat) : Int × Int × Int := (hx v ms palm x i % v.1.p, (hx v ms palm x i - palm) % v.2.p, gp v ms palm x y i)
theorem gp_rep (ok : v.Ok) (s0 : ms.sum = 0) {x y : Int} {i j : Nat} (h : kyT v ms palm x y i = kyT v ms palm x y j) (t : Nat) : gp v ms palm x y (i + t) = gp v ms palm x y (j + t) := by
  have h1 : hx v ms palm x i % v.1.p = hx v ms palm x j % v.1.p := congrArg Prod.fst h
  have h2 : (hx v ms palm x i - palm) % v.2.p = (hx v ms palm x j - palm) % v.2.p := congrArg (fun q => q.2.1) h
  have h3 : gp v ms palm x y i = gp v ms palm x y j := congrArg (fun q => q.2.2) h
  have px : plc v (rp v ms (x, palm) i) = plc v (rp v ms (x, palm) j) := by
    rw [hx_eta s0, hx_eta s0]
    unfold plc
    exact Prod.ext h1 h2
  have py : plc v (rp v ms (y, palm) i) = plc v (rp v ms (y, palm) j) := by
    rw [hx_eta s0, hx_eta s0]
    unfold plc
    have a1 : hx v ms palm y i = hx v ms palm x i + gp v ms palm x y i := by unfold gp; omega
    have a2 : hx v ms palm y j = hx v ms palm x j + gp v ms palm x y i := by rw [h3]; unfold gp; omega
    refine Prod.ext ?_ ?_
    · show hx v ms palm y i % v.1.p = hx v ms palm y j % v.1.p
      rw [a1, a2, Int.add_emod, h1, ← Int.add_emod]
    · show (hx v ms palm y i - palm) % v.2.p = (hx v ms palm y j - palm) % v.2.p
      rw [a1, a2, show hx v ms palm x i + gp v ms palm x y i - palm = (hx v ms palm x i - palm) + gp v ms palm x y i by omega, show hx v ms palm x j + gp v ms palm x y i - palm = (hx v ms palm x j - palm) + gp v ms palm x y i by omega, Int.add_emod, h2, ← Int.add_emod]
  have ex := congrArg Prod.fst (rp_shift ok ms px t)
  have ey := congrArg Prod.fst (rp_shift ok ms py t)
  rw [← rp_add, ← rp_add] at ex ey
  have ex' : hx v ms palm x (j + t) = hx v ms palm x (i + t) + (hx v ms palm x j - hx v ms palm x i) := ex
  have ey' : hx v ms palm y (j + t) = hx v ms palm y (i + t) + (hx v ms palm y j - hx v ms palm y i) := ey
  unfold gp at h3 ⊢
  omega
theorem gp_never (ok : v.Ok) (s0 : ms.sum = 0) {x y : Int} {i j : Nat} (hj : j < i) (h : kyT v ms palm x y j = kyT v ms palm x y i) (nz : ∀ m, m < i → gp v ms palm x y m ≠ 0) (n : Nat) : gp v ms palm x y n ≠ 0 := by
  induction n using Nat.strongRecOn with
  | ind n ih =>
    rcases Nat.lt_or_ge n i with z | z
    · exact nz n z
    · have e := gp_rep ok s0 h (n - i)
      rw [show i + (n - i) = n by omega] at e
      rw [← e]
      exact ih _ (by omega)
theorem kyT_le (ok : v.Ok) {x y : Int} {n : Nat} (inj : ∀ i k, i < k → k < n → kyT v ms palm x y i ≠ kyT v ms palm x y k) : n ≤ 332352 := by
  obtain ⟨L, cm, _⟩ := com_lcm ok
  have L0 := cm.pos
  have L5 := cm.le
  have p1 := ok.1.p1
  have p2 := ok.1.p24
  have q1 := ok.2.p1
  have q2 := ok.2.p24
  have b : ∀ i, 0 ≤ (kyT v ms palm x y i).1 ∧ (kyT v ms palm x y i).1 < 24 ∧ 0 ≤ (kyT v ms palm x y i).2.1 ∧ (kyT v ms palm x y i).2.1 < 24 ∧ 0 ≤ (kyT v ms palm x y i).2.2 - L * ((y - x) / L) ∧ (kyT v ms palm x y i).2.2 - L * ((y - x) / L) < 577 := fun i => by
    have a1 := Int.emod_nonneg (hx v ms palm x i) (show v.1.p ≠ 0 by omega)
    have a2 := Int.emod_lt_of_pos (hx v ms palm x i) (show 0 < v.1.p by omega)
    have a3 := Int.emod_nonneg (hx v ms palm x i - palm) (show v.2.p ≠ 0 by omega)
    have a4 := Int.emod_lt_of_pos (hx v ms palm x i - palm) (show 0 < v.2.p by omega)
    have a5 := gp_bound (ms := ms) (palm := palm) ok cm x y i
    unfold kyT
    refine ⟨a1, by show hx v ms palm x i % v.1.p < 24; omega, a3, by show (hx v ms palm x i - palm) % v.2.p < 24; omega, by show 0 ≤ gp v ms palm x y i - _; omega, by show gp v ms palm x y i - _ < 577; omega⟩
  refine pigeon 332352 n (fun i => (((kyT v ms palm x y i).1 * 24 + (kyT v ms palm x y i).2.1) * 577 + ((kyT v ms palm x y i).2.2 - L * ((y - x) / L))).toNat) (fun i hi => ?_) (fun i k hik hk e => ?_)
  · have := b i
    show (((kyT v ms palm x y i).1 * 24 + (kyT v ms palm x y i).2.1) * 577 + ((kyT v ms palm x y i).2.2 - L * ((y - x) / L))).toNat < 332352
    omega
  · have h1 := b i
    have h2 := b k
    have e' : (((kyT v ms palm x y i).1 * 24 + (kyT v ms palm x y i).2.1) * 577 + ((kyT v ms palm x y i).2.2 - L * ((y - x) / L))).toNat = (((kyT v ms palm x y k).1 * 24 + (kyT v ms palm x y k).2.1) * 577 + ((kyT v ms palm x y k).2.2 - L * ((y - x) / L))).toNat := e
    refine inj i k hik hk ?_
    refine Prod.ext (by omega) (Prod.ext (by omega) (by omega))
/-- behind how many rounds two bars are joined -/
def JR (v : Dv) (ms : List Int) (palm x y : Int) (d : D) : Prop := (d = .none ∧ ∀ n, gp v ms palm x y n ≠ 0) ∨ ∃ n : Nat, d = .int (n : Int) ∧ n ≤ 332352 ∧ gp v ms palm x y n = 0 ∧ ∀ m, m < n → gp v ms palm x y m ≠ 0
theorem JR.uniq {x y : Int} {d e : D} (a : JR v ms palm x y d) (b : JR v ms palm x y e) : e = d := by
  rcases a with ⟨rfl, a⟩ | ⟨n, rfl, _, z, lo⟩
  · rcases b with ⟨rfl, _⟩ | ⟨m, rfl, _, z, _⟩
    · rfl
    · exact absurd z (a m)
  · rcases b with ⟨rfl, b⟩ | ⟨m, rfl, _, z2, lo2⟩
    · exact absurd z (b n)
    · have : n = m := by
        rcases Nat.lt_trichotomy n m with q | q | q
        · exact absurd z (lo2 n q)
        · exact q
        · exact absurd z2 (lo m q)
      rw [this]
theorem gp_swap (x y : Int) (n : Nat) : gp v ms palm y x n = -gp v ms palm x y n := by unfold gp; omega
theorem JR.swap {x y : Int} {d : D} (a : JR v ms palm x y d) : JR v ms palm y x d := by
  have e : ∀ n, gp v ms palm y x n ≠ 0 ↔ gp v ms palm x y n ≠ 0 := fun n => by rw [gp_swap]; omega
  rcases a with ⟨rfl, a⟩ | ⟨n, rfl, nb, z, lo⟩
  · exact .inl ⟨rfl, fun n => (e n).mpr (a n)⟩
  · exact .inr ⟨n, rfl, nb, by rw [gp_swap, z]; rfl, fun m hm => (e m).mpr (lo m hm)⟩
theorem kyT_rep (ok : v.Ok) (s0 : ms.sum = 0) {x y : Int} {n : Nat} (nz : ∀ m, m < n → gp v ms palm x y m ≠ 0) (h : ∃ j, j < n ∧ kyT v ms palm x y j = kyT v ms palm x y n) : JR v ms palm x y .none := by
  obtain ⟨j, hj, e⟩ := h
  exact Or.inl (And.intro rfl (fun n => gp_never ok s0 hj e nz n))
end
/-! ### a dict of places -/
abbrev pk3 (q : Int × Int × Int) : List Key := [.inl q.1, .inl q.2.1, .inl q.2.2]
theorem pk3_inj {a b : Int × Int × Int} (h : pk3 a = pk3 b) : a = b := by
  simp only [pk3, List.cons.injEq, Sum.inl.injEq, and_true] at h
  exact Prod.ext h.1 (Prod.ext h.2.1 h.2.2)
abbrev triD (q : Int × Int × Int) : D := .tuple [.int q.1, .int q.2.1, .int q.2.2]
def kv3 (qs : List (Int × Int × Int)) : List (List Key × V) := qs.map fun q => (pk3 q, V.bl true)
theorem kv3_val (q : Int × Int × Int) : ∀ qs : List (Int × Int × Int), (q ∈ qs → valV (kv3 qs) (pk3 q) = some (.bl true)) ∧ (q ∉ qs → valV (kv3 qs) (pk3 q) = none)
  | [] => ⟨fun h => (nomatch h), fun _ => rfl⟩
  | r :: qs => by
    have ih := kv3_val q qs
    have e : valV (kv3 (r :: qs)) (pk3 q) = if pk3 r = pk3 q then some (.bl true) else valV (kv3 qs) (pk3 q) := by
      unfold valV kv3
      rw [List.map_cons, List.find?_cons]
      by_cases z : pk3 r = pk3 q
      · rw [if_pos z, show decide ((pk3 r, V.bl true).1 = pk3 q) = true from decide_eq_true z]; rfl
      · rw [if_neg z, show decide ((pk3 r, V.bl true).1 = pk3 q) = false from decide_eq_false z]
    rw [e]
    by_cases z : r = q
    · rw [if_pos (by rw [z])]
      exact ⟨fun _ => rfl, fun h => absurd (by rw [z]; exact List.mem_cons_self) h⟩
    · rw [if_neg fun y => z (pk3_inj y)]
      refine ⟨fun h => ih.1 ?_, fun h => ih.2 fun y => h (List.mem_cons_of_mem _ y)⟩
      rcases List.mem_cons.mp h with y | y
      · exact absurd y.symm z
      · exact y
section
variable {c : Cn} {K : PySem.W.Frag} {ds : DS} {pl : List D} {t u body : TS} {D' : Ends} {G0 : Hp} {E : EE} {Φ : W → List D → Prop} {tt : TT}
theorem tri_at {G H : Hp} {σ : L2.St} {ip : Nat} {q : Int × Int × Int} (hs : HS c G σ H ds pl) (hi : ds[ip]? = some (some (.d (triD q)))) : ∃ a, σ[ip]? = some (some (.ref a)) ∧ H a = some (.tup ((pk3 q).map kV)) := by
  obtain ⟨v, e1, e2⟩ := hs.slots ip _ hi
  have e2' : R G v (triD q) := e2
  cases e2' with
  | @tup y vs _ a1 b1 =>
    cases b1 with
    | cons r1 b1 =>
      cases b1 with
      | cons r2 b1 =>
        cases b1 with
        | cons r3 b1 =>
          cases b1
          cases r1
          cases r2
          cases r3
          exact ⟨y, e1, hs.sub _ _ a1⟩
/-- while place not in seen: if .. : return len(seen); seen[place] = True; .. -/
theorem wsk_while_t3 {id ip : Nat} {p : Addr} (ft : Fits c G0 D' E) (I : Nat → List (Int × Int × Int) → DS → List D → Prop) (m0 : Nat) (F : Fresh c (one p (.dT []))) (h0 : I m0 [] ds pl)
    (step : ∀ m qs ds' pl', I m qs ds' pl' → ds'[id]? = some (some (.v (.ref p))) ∧ ∃ q : Int × Int × Int, ds'[ip]? = some (some (.d (triD q))) ∧
      (q ∈ qs → ∀ P, Fresh c P → WS (c.pinP P) u ds' pl' E) ∧
      (q ∉ qs → qs.length < sizeLine ∧ ∃ b : Bool, (∀ P, Fresh c P → WT (c.pinP P) tt ds' pl' fun b' p1 => b' = b ∧ p1 = pl') ∧ (b = true → E.rt (.d (.int (qs.length : Nat))) pl') ∧
        (b = false → ∀ P, Fresh c P → WS (c.pinP P) body ds' pl' (onlyNx fun ds2 pl2 => ∃ m', m' < m ∧ I m' (qs ++ [q]) ds2 pl2)))) :
    WSK (c.pinP (one p (.dT []))) (tSeq (tWhile (tB (tDNotIn (tVar ip) (tVar id))) (tSeq (tIfS tt (tRet (tCB rLenT (tCons (tVar id) tNil))) tNext) (tSeq (sDPut (tVar id) (tVar ip) (tC (.bl true))) body))) u) ds pl D' G0 := fun G σ H hs e0 =>
  ⟨fun m σ' H' => ∃ G' ds' pl' qs, Fresh c (one p (.dT (kv3 qs))) ∧ HS (c.pinP (one p (.dT (kv3 qs)))) G' σ' H' ds' pl' ∧ Ex G0 G' ∧ I m qs ds' pl', ⟨m0, G, ds, pl, [], F, hs, e0, h0⟩, by
    rintro m σ' H' ⟨G', ds', pl', qs, F1, h1, e1, g1⟩
    obtain ⟨q1, q, q2, q4, q5⟩ := step m qs ds' pl' g1
    obtain ⟨z1, z2⟩ := dict_at h1 q1 one_at
    obtain ⟨kq, y1, y2⟩ := tri_at h1 q2
    refine ⟨_, y1, _, z1, p, valV (kv3 qs) (pk3 q), rfl, DGet.t z2 y2, !(valV (kv3 qs) (pk3 q)).isSome, rfl, ?_⟩
    have kv := kv3_val q qs
    by_cases hm : q ∈ qs
    · rw [kv.1 hm]
      exact q4 hm _ F1 G' σ' H' h1 D' (Fits.pinP F1 (ft.up e1))
    · rw [kv.2 hm]
      obtain ⟨l1, b, htt, hrt, hbd⟩ := q5 hm
      have ll : (kv3 qs).length = qs.length := by unfold kv3; rw [List.length_map]
      refine ⟨fun σ3 H3 => ∃ m', m' < m ∧ ∃ G' ds' pl' qs, Fresh c (one p (.dT (kv3 qs))) ∧ HS (c.pinP (one p (.dT (kv3 qs)))) G' σ3 H3 ds' pl' ∧ Ex G0 G' ∧ I m' qs ds' pl', fun σ3 H3 ⟨m', l, q⟩ => ⟨m', l, q⟩, ?_⟩
      refine htt _ F1 G' σ' H' h1 _ ?_
      rintro b' G2 H2 p2 h2 e2 ⟨rfl, rfl⟩
      obtain ⟨x1, x2⟩ := dict_at h2 q1 one_at
      obtain ⟨kq2, w1, w2⟩ := tri_at h2 q2
      cases b' with
      | true =>
        refine ⟨_, x1, p, kv3 qs, rfl, x2, ?_⟩
        rw [ll]
        exact (Fits.pinP F1 (ft.up e1)).rt _ G2 σ' H2 ds' (.d (.int (qs.length : Nat))) p2 h2 e2 (R.int _) (hrt rfl)
      | false =>
        have w3 := hbd rfl
        refine ⟨_, x1, _, w1, p, _, rfl, DPut.t x2 w2 (by rw [ll]; exact l1), ?_⟩
        obtain ⟨F2, h5⟩ := h2.repin (o' := .dT (putK (kv3 qs) (pk3 q) (.bl true))) F1 one_at
        rw [one_upd] at F2 h5
        have ek : putK (kv3 qs) (pk3 q) (.bl true) = kv3 (qs ++ [q]) := by
          rw [putK_new _ _ _ (kv.2 hm)]
          unfold kv3
          rw [List.map_append]
          rfl
        rw [ek] at F2 h5 ⊢
        refine w3 _ F2 G2 σ' _ h5 _ ⟨?_, ?_, ?_, ?_⟩
        · exact fun G6 σ6 H6 ds6 pl6 h6 e6 ⟨m', l, g6⟩ => ⟨m', l, G6, ds6, pl6, _, F2, h6, e1.trans (e2.trans e6), g6⟩
        · exact fun _ _ _ _ _ _ _ _ _ _ w => w.elim
        · exact fun _ _ _ _ _ _ _ w => w.elim
        · exact fun _ _ _ _ _ _ _ w => w.elim⟩
/-- xs, x, ys, n = [a, b], None, [], 0 -/
theorem ws_par4 {i j l m a b n4 : Nat} {x y : Int} {n : Int} (h4 : n4 = 4) (ha : ds[a]? = some (some (.d (.int x)))) (hb : ds[b]? = some (some (.d (.int y))))
    (h : E.nx ((((ds.set i (some (.d (.list [.int x, .int y])))).set j (some (.d .none))).set l (some (.o []))).set m (some (.d (.int n)))) pl) :
    WS c (tAsg (tTup (tCons (tLst (tCons (tVar a) (tCons (tVar b) tNil))) (tCons (tC .non) (tCons (tLst tNil) (tCons (tC (.int n)) tNil))))) (gTup K n4 (gCons (gName i) (gCons (gName j) (gCons (gName l) (gCons (gName m) gNil)))))) ds pl E := fun G σ H hs D' f => by
  subst h4
  obtain ⟨v1, a1, a2⟩ := hs.slots a _ ha
  obtain ⟨v2, b1, b2⟩ := hs.slots b _ hb
  refine ⟨v1, a1, v2, b1, by show 2 ≤ sizeLine; decide, fun q1 hq1 => ?_⟩
  have n1 := hs.none_of hq1
  have h1 := hs.newD (o := .lst [v1, v2]) hq1
  have e1 : Ex G (upd G q1 (.lst [v1, v2])) := Ex.new n1.1
  refine ⟨by decide, fun q2 hq2 => ?_⟩
  obtain ⟨k1, k2, k3, k4, k5⟩ := h1.none_of hq2
  have h2 := h1.newH (o := .lst []) hq2
  have own : ∀ (jj : Nat) (ys : List D), ds[jj]? = some (some (W.o ys)) → σ[jj]? ≠ some (some (.ref q2)) := fun jj ys q3 q4 => by
    obtain ⟨v, d1, p', us, rfl, d2, _⟩ := h1.slots jj _ q3
    rw [q4] at d1
    have ep : q2 = p' := V.ref.inj (Option.some.inj (Option.some.inj d1))
    rw [← ep, hq2] at d2
    cases d2
  refine ⟨by show 4 ≤ sizeLine; decide, fun t ht => ?_⟩
  have h3 := h2.newH (o := .tup [.ref q1, .non, .ref q2, .int n]) ht
  have ne2 : q2 ≠ t := fun z => by
    rw [← z, upd_same] at ht
    cases ht
  refine ⟨t, [.ref q1, .non, .ref q2, .int n], rfl, SqT.of upd_same, rfl, _, _, rfl, _, _, rfl, _, _, rfl, _, _, rfl, rfl, ?_⟩
  have s1 := h3.set (i := i) (v := .ref q1) (w := .d (.list [.int x, .int y])) (show R _ (.ref q1) (.list [.int x, .int y]) from .lst upd_same (.cons (R.up a2 e1) (.cons (R.up b2 e1) .nil))) fun xs z => by cases z
  have s2 := s1.set (i := j) (v := .non) (w := .d .none) R.non fun xs z => by cases z
  have s3 := s2.set (i := l) (v := .ref q2) (w := .o []) ⟨q2, [], rfl, by rw [upd_ne ne2, upd_same], .nil, k1, k5, k3, k4, k2⟩ fun xs z jj ys q3 q4 => ?_
  · exact f.nx _ _ _ _ pl (s3.set (i := m) (v := .int n) (w := .d (.int n)) (R.int n) fun xs z => by cases z) e1 h
  · have ji : jj ≠ i ∧ jj ≠ j := by
      refine ⟨fun e => ?_, fun e => ?_⟩
      · subst e
        by_cases e2 : j = jj
        · subst e2
          have hlt := (List.getElem?_eq_some_iff.mp q3).1
          rw [List.length_set] at hlt
          rw [List.getElem?_set_self hlt] at q3
          cases q3
        · rw [List.getElem?_set_ne e2] at q3
          have hlt := (List.getElem?_eq_some_iff.mp q3).1
          rw [List.length_set] at hlt
          rw [List.getElem?_set_self hlt] at q3
          cases q3
      · subst e
        have hlt := (List.getElem?_eq_some_iff.mp q3).1
        rw [List.length_set] at hlt
        rw [List.getElem?_set_self hlt] at q3
        cases q3
    rw [List.getElem?_set_ne (Ne.symm ji.2), List.getElem?_set_ne (Ne.symm ji.1)] at q3 q4
    exact own jj ys q3 q4
end
theorem tri_lay : ∀ qs : List (Int × Int × Int), PyData.canLayAll0 (qs.map triD) = true
  | [] => rfl
  | q :: qs => by
    rw [List.map_cons]
    show (PyData.canLay0 (triD q) && PyData.canLayAll0 (qs.map triD)) = true
    rw [tri_lay qs]
    rfl
theorem tri_depth : ∀ qs : List (Int × Int × Int), PyData.depthAll (qs.map triD) ≤ 1
  | [] => by show 0 ≤ 1; decide
  | q :: qs => by
    rw [List.map_cons]
    show max (PyData.depth (triD q)) (PyData.depthAll (qs.map triD)) ≤ 1
    have := tri_depth qs
    have e : PyData.depth (triD q) = 1 := rfl
    omega
theorem tri_shaped (qs : List (Int × Int × Int)) : SeqAt.shaped (.list (qs.map triD)) = true := by
  unfold SeqAt.shaped
  have h1 : PyData.canLay0 (.list (qs.map triD)) = true := by simpa only [PyData.canLay0] using tri_lay qs
  have h2 : PyData.depth (.list (qs.map triD)) ≤ 64 := by
    have := tri_depth qs
    simp only [PyData.depth]
    omega
  rw [h1, decide_eq_true h2]
  rfl
theorem tri_any (q : Int × Int × Int) (qs : List (Int × Int × Int)) : ((qs.map triD).any fun z => PyData.eqv z (triD q)) = decide (q ∈ qs) := by
  induction qs with
  | nil => rfl
  | cons r qs ih =>
    rw [List.map_cons, List.any_cons, ih]
    have e : PyData.eqv (triD r) (triD q) = decide (r = q) := by
      have e1 : PyData.eqv (triD r) (triD q) = ((r.1 == q.1) && ((r.2.1 == q.2.1) && ((r.2.2 == q.2.2) && true))) := rfl
      rw [e1]
      obtain ⟨r1, r2, r3⟩ := r
      obtain ⟨q1, q2, q3⟩ := q
      by_cases h1 : r1 = q1 <;> by_cases h2 : r2 = q2 <;> by_cases h3 : r3 = q3 <;> simp [h1, h2, h3]
    rw [e]
    by_cases z : r = q
    · rw [decide_eq_true z, decide_eq_true (show q ∈ r :: qs by rw [z]; exact List.mem_cons_self)]; rfl
    · rw [decide_eq_false z, Bool.false_or]
      by_cases y : q ∈ qs
      · rw [decide_eq_true y, decide_eq_true (List.mem_cons_of_mem _ y)]
      · rw [decide_eq_false y, decide_eq_false fun w => (List.mem_cons.mp w).elim (fun a => z a.symm) y]
end PD

/-! PD60: a stock (a pool with a greater number), the script cut, a list repeated -/
namespace PD
open PySem PySem.Spec PyProof.Rows L2 Evl
def Qk (n : Nat) (pl : List D) : Prop := ∃ a b c : Int, pl = [.int a, .int b, .int c] ∧ 0 ≤ a ∧ 0 ≤ b ∧ b < 2 ^ 130 ∧ 0 ≤ c ∧ c ≤ n
theorem Qk.up {n m : Nat} {pl : List D} (h : Qk n pl) (e : n ≤ m) : Qk m pl := by
  obtain ⟨a, b, c, h1, h2, h3, h4, h5, h6⟩ := h
  exact ⟨a, b, c, h1, h2, h3, h4, h5, by omega⟩
def poolQ {A : Type} (L : Nat) (enc : A → List D) (pre : A → Prop) (B : A → Nat) (post : A → D → Prop) : List D → List D → (D → List D → Prop) → Prop := fun pl ds k => ∃ (a : A) (n : Nat), ds = enc a ∧ pre a ∧ Qk n pl ∧ n < L ∧ ∀ d pl', post a d → Qk (n + B a) pl' → k d pl'
theorem poolQ_mono {A : Type} {L : Nat} {enc : A → List D} {pre : A → Prop} {B : A → Nat} {post : A → D → Prop} : ∀ pl ds k k', poolQ L enc pre B post pl ds k → (∀ d p, k d p → k' d p) → poolQ L enc pre B post pl ds k' :=
  fun _ _ _ _ ⟨a, n, e, p, q, l, h⟩ g => ⟨a, n, e, p, q, l, fun d p x y => g d p (h d p x y)⟩
section
variable {c : Cn} {K : PySem.W.Frag} {ds : DS} {pl : List D} {Φ : W → List D → Prop} {tr : TA} {te ta tb : TE} {E : XK} {A : Type} {enc : A → List D} {pre : A → Prop} {B : A → Nat} {post : A → D → Prop} {L : Nat}
theorem we_poolQ {i : Nat} {p : Addr} (a : A) (hi : ds[i]? = some (some (.v (.ref p)))) (hp : c.pool = some p)
    (ha : WA c tr ds pl fun xs p1 => xs = enc a ∧ pre a ∧ ∃ n, Qk n p1 ∧ n < L ∧ ∀ d p2, post a d → Qk (n + B a) p2 → Φ (.d d) p2) : WE c (tCall (spO (poolQ L enc pre B post)) [] E (tCons (tVar i) tr)) ds pl Φ :=
  we_callO hi hp (ha.mono fun xs p1 ⟨e, h, n, q, l, k⟩ => ⟨a, n, e, h, q, l, k⟩) poolQ_mono
theorem we_poolQE {i : Nat} {p : Addr} (hi : ds[i]? = some (some (.v (.ref p)))) (hp : c.pool = some p)
    (ha : WA c tr ds pl fun xs p1 => ∃ a, xs = enc a ∧ pre a ∧ ∃ n, Qk n p1 ∧ n < L ∧ ∀ d p2, post a d → Qk (n + B a) p2 → Φ (.d d) p2) : WE c (tCall (spO (poolQ L enc pre B post)) [] E (tCons (tVar i) tr)) ds pl Φ :=
  we_callO hi hp (ha.mono fun xs p1 ⟨a, e, h, n, q, l, k⟩ => ⟨a, n, e, h, q, l, k⟩) poolQ_mono
abbrev drawQ := poolQ 9000000 (fun t : Int => [.int t]) (fun t => 0 < t ∧ t < (2 : Int) ^ 200) (fun _ => 1) (fun t d => ∃ v, d = .int v ∧ 0 ≤ v ∧ v < t)
theorem we_drawQ {i : Nat} {p : Addr} (t : Int) (n : Nat) (hi : ds[i]? = some (some (.v (.ref p)))) (hp : c.pool = some p)
    (ha : WA c tr ds pl fun xs p1 => xs = [.int t] ∧ (0 < t ∧ t < (2 : Int) ^ 200) ∧ Qk n p1 ∧ n < 9000000 ∧ ∀ v p2, 0 ≤ v → v < t → Qk (n + 1) p2 → Φ (.d (.int v)) p2) : WE c (tCall (spO drawQ) [] E (tCons (tVar i) tr)) ds pl Φ :=
  we_poolQ t hi hp (ha.mono fun xs p1 ⟨e, h, hP, hn, k⟩ => ⟨e, h, n, hP, hn, fun d p2 ⟨v, hv, v0, v1⟩ hP2 => by subst hv; exact k v p2 v0 v1 hP2⟩)
/-- the script from its beginning on, cut -/
theorem we_sliceScr {i : Nat} {a : Addr} {ns : List Int} {th : TO} (hS : Scr K c a ns) (hi : ds[i]? = some (some (.v (.ref a)))) (h : WO c th ds pl fun hi p => ∃ k : Nat, hi = some (k : Int) ∧ Φ (.d (.list ((ns.take k).map PyData.int))) p) : WE c (tSl (rSlL K) (tVar i) tNoPart th) ds pl Φ := fun G σ H hs Q q => by
  obtain ⟨v, e1, e2⟩ := hs.slots i _ hi
  have e2' : v = .ref a := e2
  subst e2'
  refine ⟨_, e1, ?_⟩
  refine h G σ H hs _ ?_
  rintro hi G3 H3 p3 h3 e3 ⟨k, rfl, g3⟩
  refine ⟨_, _, rfl, hS.at h3, fun l hl => ?_⟩
  have n := h3.none_of hl
  have e : cutV (ns.map V.int) none (some (k : Int)) = (ns.take k).map V.int := by
    have b : RA G3 (ns.map V.int) (ns.map PyData.int) := RA.of_ints ns
    have r := cutV_RA b none (some (k : Int))
    rw [show ((ns.map PyData.int).drop (HT.sIx (ns.map PyData.int).length 0 none)).take (HT.sIx (ns.map PyData.int).length (ns.map PyData.int).length (some (k : Int)) - HT.sIx (ns.map PyData.int).length 0 none) = (ns.take k).map PyData.int from cut_take ns k] at r
    exact r.ints
  rw [e]
  exact q _ _ _ (.d _) p3 (h3.newD hl) (e3.trans (Ex.new n.1)) (show R _ (.ref l) (.list ((ns.take k).map PyData.int)) from .lst upd_same (RA.of_ints _)) g3
/-- xs = ys * k as an owned list -/
theorem ws_mulO {i : Nat} {En : EE} (h : WE c ta ds pl (isD fun d p1 => WE c tb ds p1 (isI fun k p2 => ∃ (xs : List D) (m : Nat), d = .list xs ∧ k = (m : Int) ∧ m ≤ 1000 ∧ xs.length * m ≤ sizeLine ∧ En.nx (ds.set i (some (.o (repD xs m)))) p2))) : WS c (tAsg (tOp rMulU ta tb) (gName i)) ds pl En := fun G σ H hs D' f => h G σ H hs _ fun v G1 H1 w p1 h1 e1 f1 g1 => by
  match w, f1, g1 with
  | .d d, f1, g1 =>
    refine g1 G1 σ H1 h1 _ fun u G2 H2 w2 p2 h2 e2 f2 g2 => ?_
    match w2, f2, g2 with
    | .d (.int k), f2, ⟨xs, m, ed, ek, hm, hl, g3⟩ =>
      subst ed ek
      cases f2
      have f1' : R G1 v (.list xs) := f1
      cases f1' with
      | @lst p vs _ a b =>
      refine .inr ⟨p, (m : Int), vs, rfl, rfl, h2.sub _ _ (e2 _ _ a), by omega, by omega, by rw [Int.toNat_natCast, b.len]; exact hl, fun l hln => ?_⟩
      rw [Int.toNat_natCast]
      exact f.nx G2 _ _ _ p2 (h2.newO hln ((b.rep m).up e2) i) (e1.trans e2) g3
end
/-! ### a def that makes a stock from the script -/
def spMk1 (K : PySem.W.Frag) (F : List Int → (List D → Prop) → Prop) : Sp := fun vs H Q _ => ∃ G a ns, vs = [.ref a] ∧ Ex G H ∧ SqL K H a (ns.map V.int) ∧ F ns fun xs => ∀ p us G' H', Ex H H' → Ex G' H' → Ex G G' → (∀ a o, H a = some o → G a = none → G' a = none) → H p = none → G' p = none →
  H' p = some (.lst us) → RA G' us xs → Q (.ref p) H'
section
variable {P : Program} {w : World} {K : PySem.W.Frag} {mg : Str → Option Value} {base : Heap} {k : Nat} {f : Addr} {fd : FuncData} {ps : List Str}
theorem fgMk1 {F : List Int → (List D → Prop) → Prop} {x qual : Str} {st : Stmt} {N : List Str} (Fn : Fun K x qual st f fd) (S : FnScope N ps (defScope st)) (len : ps.length = 1)
    (go : ∀ (cdv : Value) (B : Around) (fr : List Env) (s : Shared) (H : Hp) (E : XK), B.guards = some [] → Room k (B.deeper (envOfC qual (defScope st) s.heap.objs.size f cdv)) → ∃ t, PSs (cxOf CX0 P w K mg base N qual (defScope st) f cdv B fr s H E).nox (defBody st) t ∧
      ∀ c a (ns : List Int) (k : List D → Prop), c.pool = none → Scr K c a ns → F ns k → WS c t ([W.v (.ref a)].map some ++ List.replicate (N.length - 1) none) [] ⟨fun _ _ => False, rtN k, fun _ _ => False, fun _ _ => False⟩) : FG P w K mg base (k + 1) f fd ps (spMk1 K F) := by
  refine fg_of Fn S (fun vs H Q E h => ?_) fun cdv B fr s H vs Q E hg hr h => ?_
  · obtain ⟨G, a, ns, rfl, _⟩ := h
    rw [len]
    rfl
  · obtain ⟨t, der, body⟩ := go cdv B fr s H E hg hr
    refine ⟨t, der, ?_⟩
    obtain ⟨G, a, ns, rfl, s0, hS, h⟩ := h
    have st0 := hs_startW (N := N) (vs := [.ref a]) (ws := [W.v (.ref a)]) s0 rfl (fun j w q => by
      match j, q with
      | 0, q => cases q; exact ⟨_, rfl, .inr rfl⟩
      | j + 1, q => simp at q)
    refine body ⟨H, fun a => G a = none ∧ ∃ o, H a = some o, none, fun _ => none⟩ a ns _ rfl ⟨hS, by simp⟩ h G _ H st0 _ ⟨?_, ?_, ?_, ?_⟩
    · exact fun G' σ' H' ds' pl' h' e q => q.elim
    · intro v G' σ' H' ds' w' pl' h' e q g
      match w', q, g with
      | .o y, ⟨p, us, ev, a1, a2, a3, a4, a5, a6, a7⟩, g =>
        subst ev
        exact g p us G' H' (fun a o z => h'.keep a o (fun y => by cases y) z) h'.sub e (fun a o z1 z2 => h'.gh a ⟨z2, o, z1⟩) a4 a3 a1 a2
    · exact fun G' σ' H' ds' pl' h' e q => q.elim
    · exact fun G' σ' H' ds' pl' h' e q => q.elim
end
section
variable {c : Cn} {K : PySem.W.Frag} {ds : DS} {E : XK}
theorem ws_mkpool1 {F : List Int → (List D → Prop) → Prop} {i j : Nat} {a : Addr} {ns : List Int} {rest : TS} {En : EE} (hc : c.pool = none) (hS : Scr K c a ns) (hj : ds[j]? = some (some (.v (.ref a))))
    (mono : ∀ k k', F ns k → (∀ d, k d → k' d) → F ns k')
    (h : F ns fun xs => ∀ p, WS { c with pool := some p } rest (ds.set i (some (.v (.ref p)))) xs ⟨fun d _ => En.nx d [], fun w _ => En.rt w [], fun d _ => En.bk d [], fun d _ => En.ct d []⟩) :
    WS c (tSeq (tAsg (tCall (spMk1 K F) [] E (tCons (tVar j) tNil)) (gName i)) rest) ds [] En := fun G σ H hs D' f => by
  obtain ⟨v, e1, e2⟩ := hs.slots j _ hj
  have e2' : v = .ref a := e2
  subst e2'
  refine ⟨_, e1, ?_⟩
  refine ⟨G, a, ns, rfl, hs.sub, hS.at hs, mono _ _ h fun xs hx p us G' H' a1 a2 a3 a4 a5 a6 a7 a8 => ?_⟩
  obtain ⟨n1, n2, n3, n4, n5⟩ := hs.none_of a5
  have b1 := hs.ext a1 a2 a3 a4
  have b2 : HS { c with pool := some p } G' σ H' ds xs := b1.topool hc a7 a8 a6 n5 n3 n2 fun i ys q1 q2 => by
    obtain ⟨v, e2, p', us', rfl, b1, _⟩ := hs.slots i _ q1
    rw [q2] at e2
    have ep : p = p' := V.ref.inj (Option.some.inj (Option.some.inj e2))
    rw [← ep, a5] at b1
    cases b1
  have b3 := b2.set (i := i) (v := .ref p) (w := .v (.ref p)) rfl fun xs z => by cases z
  refine hx p G' _ H' b3 D' ⟨?_, ?_, ?_, ?_⟩
  · exact fun G3 σ3 H3 ds3 pl3 h3 e3 g3 => f.nx G3 σ3 H3 ds3 [] (h3.offpool hc n5) (a3.trans e3) g3
  · intro v G3 σ3 H3 ds3 w3 pl3 h3 e3 q3 g3
    refine f.rt v G3 σ3 H3 ds3 w3 [] (h3.offpool hc n5) (a3.trans e3) ?_ g3
    cases w3 with
    | d x => exact q3
    | v x => exact q3
    | o ys =>
      obtain ⟨p', vs, rfl, a1, a2, a3, a4, a5, a6, a7⟩ := q3
      exact ⟨p', vs, rfl, a1, a2, a3, a4, a5, by rw [hc]; simp, a7⟩
  · exact fun G3 σ3 H3 ds3 pl3 h3 e3 g3 => f.bk G3 σ3 H3 ds3 [] (h3.offpool hc n5) (a3.trans e3) g3
  · exact fun G3 σ3 H3 ds3 pl3 h3 e3 g3 => f.ct G3 σ3 H3 ds3 [] (h3.offpool hc n5) (a3.trans e3) g3
end
end PD

/-! PD61: the greatest heights at each hand -/
namespace PD
open PySem PySem.Spec PyProof.Rows L2 Evl
abbrev OI := Option Int
def optI : OI → D
  | some x => .int x
  | none => .none
theorem nonB_opt (o : OI) : nonB (optI o) = o.isNone := by cases o <;> rfl
def updG (best : List OI) (g : Nat) (r : Int) : List OI := match best[g]? with
  | some (some x) => if x < r then best.set g (some r) else best
  | some none => best.set g (some r)
  | none => best
def reachH (v : Dv) (height : Int) (hand goal : Nat) : Int := if goal < hand then height - min ((hand : Int) - (goal : Int)) (slk v.1 height) else height + max ((goal : Int) - (hand : Int) - slk v.2 (height - (hand : Int))) 0
def innerF (v : Dv) (best : List OI) (hand : Nat) (h : Int) (n : Nat) : List OI := (List.range n).foldl (fun b g => updG b g (reachH v h hand g)) best
def turnF (v : Dv) (tops : List OI) (b : List OI) (hd : Nat) : List OI := match tops[hd]? with
  | some (some h) => innerF v b hd h tops.length
  | _ => b
def moreF (v : Dv) (tops : List OI) (n : Nat) : List OI := (List.range n).foldl (turnF v tops) tops
def more (v : Dv) (tops : List OI) : List OI := moreF v tops tops.length
def itT (v : Dv) (tops : List OI) : Nat → List OI
  | 0 => tops
  | n + 1 => more v (itT v tops n)
theorem innerF_succ (v : Dv) (best : List OI) (hand : Nat) (h : Int) (n : Nat) : innerF v best hand h (n + 1) = updG (innerF v best hand h n) n (reachH v h hand n) := by
  unfold innerF
  rw [List.range_succ, List.foldl_append]
  rfl
theorem moreF_succ (v : Dv) (tops : List OI) (n : Nat) : moreF v tops (n + 1) = turnF v tops (moreF v tops n) n := by
  unfold moreF
  rw [List.range_succ, List.foldl_append]
  rfl
theorem updG_len (best : List OI) (g : Nat) (r : Int) : (updG best g r).length = best.length := by
  unfold updG
  split
  · split
    · rw [List.length_set]
    · rfl
  · rw [List.length_set]
  · rfl
theorem innerF_len (v : Dv) (best : List OI) (hand : Nat) (h : Int) : ∀ n : Nat, (innerF v best hand h n).length = best.length
  | 0 => rfl
  | n + 1 => by rw [innerF_succ, updG_len, innerF_len v best hand h n]
theorem turnF_len (v : Dv) (tops b : List OI) (hd : Nat) : (turnF v tops b hd).length = b.length := by
  unfold turnF
  split
  · exact innerF_len ..
  · rfl
theorem moreF_len (v : Dv) (tops : List OI) : ∀ n : Nat, (moreF v tops n).length = tops.length
  | 0 => rfl
  | n + 1 => by rw [moreF_succ, turnF_len, moreF_len v tops n]
theorem more_len (v : Dv) (tops : List OI) : (more v tops).length = tops.length := moreF_len ..
theorem itT_len (v : Dv) (tops : List OI) : ∀ n : Nat, (itT v tops n).length = tops.length
  | 0 => rfl
  | n + 1 => by show (more v (itT v tops n)).length = _; rw [more_len, itT_len v tops n]
/-- never lower than before -/
def Ge (b tops : List OI) : Prop := ∀ (g : Nat) (h : Int), tops[g]? = some (some h) → ∃ x, b[g]? = some (some x) ∧ h ≤ x
theorem Ge.refl (tops : List OI) : Ge tops tops := fun g h e => ⟨h, e, Int.le_refl _⟩
theorem Ge.updG {b tops : List OI} (G : Ge b tops) (g : Nat) (r : Int) : Ge (PD.updG b g r) tops := fun g2 h e => by
  obtain ⟨x, e1, e2⟩ := G g2 h e
  unfold PD.updG
  by_cases z : g = g2
  · subst z
    rw [e1]
    show ∃ y, (if x < r then b.set g (some r) else b)[g]? = _ ∧ _
    by_cases q : x < r
    · rw [if_pos q, List.getElem?_set_self (List.getElem?_eq_some_iff.mp e1).1]
      exact ⟨r, rfl, by omega⟩
    · rw [if_neg q]
      exact ⟨x, e1, e2⟩
  · split
    · split
      · rw [List.getElem?_set_ne z]; exact ⟨x, e1, e2⟩
      · exact ⟨x, e1, e2⟩
    · rw [List.getElem?_set_ne z]; exact ⟨x, e1, e2⟩
    · exact ⟨x, e1, e2⟩
theorem Ge.innerF {b tops : List OI} (G : Ge b tops) (v : Dv) (hand : Nat) (h : Int) : ∀ n : Nat, Ge (PD.innerF v b hand h n) tops
  | 0 => G
  | n + 1 => by rw [innerF_succ]; exact (Ge.innerF G v hand h n).updG _ _
theorem Ge.moreF (v : Dv) (tops : List OI) : ∀ n : Nat, Ge (PD.moreF v tops n) tops
  | 0 => Ge.refl tops
  | n + 1 => by
    rw [moreF_succ]
    unfold turnF
    split
    · exact (Ge.moreF v tops n).innerF v _ _ _
    · exact Ge.moreF v tops n
/-- at its own hand a bar brings nothing -/
theorem updG_own {b tops : List OI} (G : Ge b tops) {v : Dv} (ok : v.Ok) {hand : Nat} {h : Int} (e : tops[hand]? = some (some h)) : updG b hand (reachH v h hand hand) = b := by
  obtain ⟨x, e1, e2⟩ := G hand h e
  have s0 := slk_nn ok.2 (h - (hand : Int))
  have r : reachH v h hand hand = h := by
    unfold reachH
    rw [if_neg (Nat.lt_irrefl _)]
    omega
  unfold updG
  rw [e1, r]
  show (if x < h then _ else b) = b
  rw [if_neg (by omega)]
/-- bounds -/
def Bd (b : List OI) (B : Nat) : Prop := ∀ (g : Nat) (h : Int), b[g]? = some (some h) → h.natAbs ≤ B
theorem Bd.mem {b : List OI} {B : Nat} (h : Bd b B) {x : Int} (hx : some x ∈ b) : x.natAbs ≤ B := by
  obtain ⟨i, hi⟩ := List.mem_iff_getElem?.mp hx
  exact h i x hi
theorem Bd.updG {b : List OI} {B : Nat} (hb : Bd b B) {g : Nat} {r : Int} (hr : r.natAbs ≤ B) : Bd (PD.updG b g r) B := fun g2 h e => by
  have set : ∀ {h}, (b.set g (some r))[g2]? = some (some h) → h.natAbs ≤ B := fun {h} e => by
    by_cases z : g = g2
    · subst z
      have hlt := (List.getElem?_eq_some_iff.mp e).1
      rw [List.length_set] at hlt
      rw [List.getElem?_set_self hlt] at e
      cases e
      exact hr
    · rw [List.getElem?_set_ne z] at e
      exact hb g2 h e
  unfold PD.updG at e
  split at e
  · split at e
    · exact set e
    · exact hb g2 h e
  · exact set e
  · exact hb g2 h e
theorem reachH_bound {v : Dv} (ok : v.Ok) {h : Int} {B : Nat} (hb : h.natAbs ≤ B) (hand goal : Nat) : (reachH v h hand goal).natAbs ≤ B + 24 + goal := by
  have a1 := slk_lt ok.1 h
  have a2 := slk_nn ok.1 h
  have a3 := slk_nn ok.2 (h - (hand : Int))
  have p1 := ok.1.p24
  unfold reachH
  split <;> omega
theorem Bd.innerF {b : List OI} {B : Nat} {v : Dv} (ok : v.Ok) {hand : Nat} {h : Int} {C : Nat} (hh : h.natAbs ≤ B) (hb : Bd b C) (hC : B + 48 ≤ C) : ∀ n : Nat, n ≤ 25 → Bd (PD.innerF v b hand h n) C
  | 0, _ => hb
  | n + 1, hn => by
    rw [innerF_succ]
    exact (Bd.innerF ok hh hb hC n (by omega)).updG (by have := reachH_bound ok hh hand n; omega)
theorem Bd.moreF {tops : List OI} {B : Nat} {v : Dv} (ok : v.Ok) (hb : Bd tops B) (hl : tops.length ≤ 25) : ∀ n : Nat, Bd (PD.moreF v tops n) (B + 48)
  | 0 => fun g h e => by have := hb g h e; omega
  | n + 1 => by
    rw [moreF_succ]
    unfold turnF
    split
    · rename_i h e
      exact Bd.innerF ok (hb _ _ e) (Bd.moreF ok hb hl n) (Nat.le_refl _) _ hl
    · exact Bd.moreF ok hb hl n
theorem Bd.itT {tops : List OI} {B : Nat} {v : Dv} (ok : v.Ok) (hb : Bd tops B) (hl : tops.length ≤ 25) : ∀ n : Nat, Bd (PD.itT v tops n) (B + 48 * n)
  | 0 => hb
  | n + 1 => by
    have := Bd.moreF ok (Bd.itT ok hb hl n) (by rw [itT_len]; exact hl) (PD.itT v tops n).length
    rw [show B + 48 * (n + 1) = B + 48 * n + 48 by omega]
    exact this
theorem Ge.itT (v : Dv) (tops : List OI) : ∀ n : Nat, Ge (PD.itT v tops n) tops
  | 0 => Ge.refl tops
  | n + 1 => fun g h e => by
    obtain ⟨x, e1, e2⟩ := Ge.itT v tops n g h e
    obtain ⟨y, e3, e4⟩ := Ge.moreF v (PD.itT v tops n) (PD.itT v tops n).length g x e1
    exact ⟨y, e3, by omega⟩
/-! ### shifted -/
def upT (s : Int) (tops : List OI) : List OI := tops.map fun o => o.map (· + s)
theorem upT_get (s : Int) (tops : List OI) (g : Nat) : (upT s tops)[g]? = (tops[g]?).map fun o => o.map (· + s) := by unfold upT; rw [List.getElem?_map]
theorem upT_set (s : Int) (tops : List OI) (g : Nat) (r : Int) : upT s (tops.set g (some r)) = (upT s tops).set g (some (r + s)) := by unfold upT; rw [List.map_set]; rfl
theorem updG_up (s : Int) (b : List OI) (g : Nat) (r : Int) : updG (upT s b) g (r + s) = upT s (updG b g r) := by
  unfold updG
  rw [upT_get]
  cases e : b[g]? with
  | none => rfl
  | some o =>
    cases o with
    | none => exact (upT_set s b g r).symm
    | some x =>
      show (if x + s < r + s then _ else _) = upT s (if x < r then _ else _)
      by_cases q : x < r
      · rw [if_pos q, if_pos (by omega), upT_set]
      · rw [if_neg q, if_neg (by omega)]
theorem reachH_up {v : Dv} (ok : v.Ok) {s a b : Int} (h1 : s = v.1.p * a) (h2 : s = v.2.p * b) (h : Int) (hand goal : Nat) : reachH v (h + s) hand goal = reachH v h hand goal + s := by
  have e1 : slk v.1 (h + s) = slk v.1 h := by rw [h1]; exact slk_shift ok.1 h a
  have e2 : slk v.2 (h + s - (hand : Int)) = slk v.2 (h - (hand : Int)) := by rw [h2, show h + v.2.p * b - (hand : Int) = (h - (hand : Int)) + v.2.p * b by omega]; exact slk_shift ok.2 _ b
  unfold reachH
  rw [e1, e2]
  split <;> omega
theorem innerF_up {v : Dv} (ok : v.Ok) {s a b : Int} (h1 : s = v.1.p * a) (h2 : s = v.2.p * b) (best : List OI) (hand : Nat) (h : Int) : ∀ n : Nat, innerF v (upT s best) hand (h + s) n = upT s (innerF v best hand h n)
  | 0 => rfl
  | n + 1 => by rw [innerF_succ, innerF_succ, innerF_up ok h1 h2 best hand h n, reachH_up ok h1 h2, updG_up]
theorem moreF_up {v : Dv} (ok : v.Ok) {s a b : Int} (h1 : s = v.1.p * a) (h2 : s = v.2.p * b) (tops : List OI) : ∀ n : Nat, moreF v (upT s tops) n = upT s (moreF v tops n)
  | 0 => rfl
  | n + 1 => by
    rw [moreF_succ, moreF_succ, moreF_up ok h1 h2 tops n]
    have e := upT_get s tops n
    cases q : tops[n]? with
    | none =>
      rw [q] at e
      have x1 : turnF v (upT s tops) (upT s (moreF v tops n)) n = upT s (moreF v tops n) := by unfold turnF; rw [e]; rfl
      have x2 : turnF v tops (moreF v tops n) n = moreF v tops n := by unfold turnF; rw [q]
      rw [x1, x2]
    | some o =>
      rw [q] at e
      cases o with
      | none =>
        have x1 : turnF v (upT s tops) (upT s (moreF v tops n)) n = upT s (moreF v tops n) := by unfold turnF; rw [e]; rfl
        have x2 : turnF v tops (moreF v tops n) n = moreF v tops n := by unfold turnF; rw [q]
        rw [x1, x2]
      | some h =>
        have x1 : turnF v (upT s tops) (upT s (moreF v tops n)) n = innerF v (upT s (moreF v tops n)) n (h + s) (upT s tops).length := by unfold turnF; rw [e]; rfl
        have x2 : turnF v tops (moreF v tops n) n = innerF v (moreF v tops n) n h tops.length := by unfold turnF; rw [q]
        rw [x1, x2, innerF_up ok h1 h2]
        unfold upT
        rw [List.length_map]
theorem itT_up {v : Dv} (ok : v.Ok) {s a b : Int} (h1 : s = v.1.p * a) (h2 : s = v.2.p * b) (tops : List OI) : ∀ n : Nat, itT v (upT s tops) n = upT s (itT v tops n)
  | 0 => rfl
  | n + 1 => by
    show more v (itT v (upT s tops) n) = upT s (more v (itT v tops n))
    rw [itT_up ok h1 h2 tops n]
    unfold more
    rw [moreF_up ok h1 h2]
    unfold upT
    rw [List.length_map]
/-! ### begun -/
def startT (reach hand : Nat) (height : Int) : List OI := (List.replicate (reach + 1) none).set hand (some height)
theorem startT_len (reach hand : Nat) (height : Int) : (startT reach hand height).length = reach + 1 := by unfold startT; rw [List.length_set, List.length_replicate]
theorem startT_get {reach hand : Nat} {height : Int} {g : Nat} (hg : g ≤ reach) : (startT reach hand height)[g]? = some (if g = hand then some height else none) := by
  unfold startT
  by_cases z : g = hand
  · subst z
    rw [if_pos rfl, List.getElem?_set_self (by rw [List.length_replicate]; omega)]
  · rw [if_neg z, List.getElem?_set_ne (Ne.symm z), List.getElem?_replicate, if_pos (by omega)]
theorem startT_bd (reach hand : Nat) (height : Int) : Bd (startT reach hand height) height.natAbs := fun g h e => by
  have hlt := (List.getElem?_eq_some_iff.mp e).1
  rw [startT_len] at hlt
  rw [startT_get (by omega)] at e
  by_cases z : g = hand
  · rw [if_pos z] at e; cases e; exact Nat.le_refl _
  · rw [if_neg z] at e; cases e
theorem startT_up (reach hand : Nat) (height s : Int) : startT reach hand (height + s) = upT s (startT reach hand height) := by
  unfold startT
  rw [upT_set]
  unfold upT
  rw [List.map_replicate]
  rfl
/-- the heights that can be had -/
theorem tops_ne {v : Dv} {reach hand : Nat} {height : Int} (hh : hand ≤ reach) (n : Nat) : (itT v (startT reach hand height) n).filterMap id ≠ [] := fun z => by
  obtain ⟨x, e, _⟩ := Ge.itT v (startT reach hand height) n hand height (by rw [startT_get hh, if_pos rfl])
  have : x ∈ (itT v (startT reach hand height) n).filterMap id := List.mem_filterMap.mpr ⟨some x, List.mem_of_getElem? e, rfl⟩
  rw [z] at this
  cases this
theorem max_uniq {xs : List Int} {a b : Int} (h1 : a ∈ xs) (h2 : ∀ y ∈ xs, y ≤ a) (h3 : b ∈ xs) (h4 : ∀ y ∈ xs, y ≤ b) : a = b := by
  have := h2 b h3
  have := h4 a h1
  omega
theorem opt_okD {b : List OI} {B : Nat} (hb : Bd b B) (hB : B < 10 ^ 150) (n : Nat) : okD (n + 2) (.list (b.map optI)) := fun x hx => by
  obtain ⟨o, ho, rfl⟩ := List.mem_map.mp hx
  cases o with
  | none => cases n <;> trivial
  | some x => exact Nat.lt_of_le_of_lt (hb.mem ho) hB
theorem opt_cnt : ∀ b : List OI, cntA (b.map optI) = b.length
  | [] => rfl
  | o :: b => by
    show cnt (optI o) + cntA (b.map optI) = _
    rw [opt_cnt b, List.length_cons]
    cases o <;> (show 1 + _ = _; omega)
end PD

/-! PD62: greatest heights, told by a law -/
namespace PD
open PySem PySem.Spec PyProof.Rows L2 Evl
abbrev offD (v : Dv) : D := .list [.list ((sl v.1).map PyData.int), .list ((sl v.2).map PyData.int)]
theorem caught_up {c : Comb} (n k : Int) : caught c (n + c.p * k) = caught c n := by
  unfold caught
  rw [Int.add_mul_emod_self_left]
theorem held_up {v : Dv} {s a b : Int} (h1 : s = v.1.p * a) (h2 : s = v.2.p * b) {t : Sv} (h : held v t = true) : held v (t.1 + s, t.2) = true := by
  unfold held at h ⊢
  have e1 : caught v.1 (t.1 + s) = caught v.1 t.1 := by rw [h1]; exact caught_up _ _
  have e2 : caught v.2 (t.1 + s - t.2) = caught v.2 (t.1 - t.2) := by
    rw [h2, show t.1 + v.2.p * b - t.2 = t.1 - t.2 + v.2.p * b by omega]; exact caught_up _ _
  show (caught v.1 (t.1 + s) || caught v.2 (t.1 + s - t.2)) = true
  rw [e1, e2]
  exact h
theorem flo_near {c : Comb} (ok : c.Ok) (n : Int) : flo c n ≤ n ∧ n < flo c n + 24 := by
  have h1 := slk_nn ok n
  have h2 := slk_lt ok n
  have h3 := ok.p24
  unfold slk at h1 h2
  omega
theorem startT_take {reach hand : Nat} {height : Int} {i : Nat} (hi : i ≤ reach) : (PD.startT reach hand height).take (i + 1) = (PD.startT reach hand height).take i ++ [if i = hand then some height else none] := by
  rw [List.take_add_one, startT_get hi]
  rfl
theorem opt_cntL (b : List OI) : cnt (.list (b.map optI)) = b.length + 1 := by
  show cntA (b.map optI) + 1 = _
  rw [opt_cnt]
def vOne : Dv := (⟨1, [0]⟩, ⟨1, [0]⟩)
theorem okOne : vOne.Ok := ⟨⟨by decide, by decide, by decide, by decide, by decide, by decide⟩, ⟨by decide, by decide, by decide, by decide, by decide, by decide⟩⟩
def vTwo : Dv := (⟨24, [0, 7]⟩, ⟨23, [1, 12]⟩)
theorem okTwo : vTwo.Ok := ⟨⟨by decide, by decide, by decide, by decide, by decide, by decide⟩, ⟨by decide, by decide, by decide, by decide, by decide, by decide⟩⟩
theorem top_one : (itT vOne (PD.startT 24 (0 : Int).toNat 0) 9)[24]? = some (some 120) := by decide +kernel
end PD

/-! PD63: the script still read behind a stock made -/
namespace PD
open PySem PySem.Spec PyProof.Rows L2 Evl
def Scq (K : PySem.W.Frag) (c : Cn) (a : Addr) (ns : List Int) : Prop := SqL K c.H0 a (ns.map V.int) ∧ (Rd c.H0 a (.lst (ns.map V.int)) → c.pool ≠ some a)
section
variable {c : Cn} {K : PySem.W.Frag} {ds : DS} {pl : List D} {Φ : W → List D → Prop} {E : XK}
theorem Scq.at {a : Addr} {ns : List Int} (h : Scq K c a ns) {G H : Hp} {σ : L2.St} (hs : HS c G σ H ds pl) : SqL K H a (ns.map V.int) := by
  obtain ⟨h, hp⟩ := h
  rcases h with h | h
  · have hp' := hp h
    rcases h with h | ⟨o, h⟩
    · exact .inl (.inl (hs.keep _ _ hp' h))
    · exact .inl (.inr ⟨o, hs.keep _ _ hp' h⟩)
  · exact .inr h
theorem we_eqScq {i : Nat} {a : Addr} {ns : List Int} (hS : Scq K c a ns) (hi : ds[i]? = some (some (.v (.ref a)))) (h : Φ (.d (.bool (decide (ns = [])))) pl) : WE c (tOp (rEqU K) (tVar i) (tLst tNil)) ds pl Φ := fun G σ H hs Q q => by
  obtain ⟨v, e1, e2⟩ := hs.slots i _ hi
  have e2' : v = .ref a := e2
  subst e2'
  refine ⟨_, e1, Nat.zero_le _, fun p hp => .inl ⟨.list (ns.map PyData.int), .list [], ?_, .lst (SqL.of upd_same) .nil, ints_shaped ns, rfl, ?_⟩⟩
  · exact .lst (hS.at (hs.newH (o := .lst []) hp)) (ints_dp ns)
  · have e : PyData.eqv (.list (ns.map PyData.int)) (.list []) = decide (ns = []) := by
      rw [eqv_nil]
      cases ns with
      | nil => rfl
      | cons a r => rfl
    rw [e]
    exact q _ G _ (.d _) pl (hs.newH hp) (Ex.refl _) (R.bl _) h
theorem ws_mkpool1q {F : List Int → (List D → Prop) → Prop} {i j : Nat} {a : Addr} {ns : List Int} {rest : TS} {En : EE} (hc : c.pool = none) (hS : Scr K c a ns) (hj : ds[j]? = some (some (.v (.ref a))))
    (mono : ∀ k k', F ns k → (∀ d, k d → k' d) → F ns k')
    (h : F ns fun xs => ∀ p, Scq K { c with pool := some p } a ns → WS { c with pool := some p } rest (ds.set i (some (.v (.ref p)))) xs ⟨fun d _ => En.nx d [], fun w _ => En.rt w [], fun d _ => En.bk d [], fun d _ => En.ct d []⟩) :
    WS c (tSeq (tAsg (tCall (spMk1 K F) [] E (tCons (tVar j) tNil)) (gName i)) rest) ds [] En := fun G σ H hs D' f => by
  obtain ⟨v, e1, e2⟩ := hs.slots j _ hj
  have e2' : v = .ref a := e2
  subst e2'
  refine ⟨_, e1, ?_⟩
  refine ⟨G, a, ns, rfl, hs.sub, hS.at hs, mono _ _ h fun xs hx p us G' H' a1 a2 a3 a4 a5 a6 a7 a8 => ?_⟩
  obtain ⟨n1, n2, n3, n4, n5⟩ := hs.none_of a5
  have sq : Scq K { c with pool := some p } a ns := by
    refine ⟨hS.1, fun hr e => ?_⟩
    have e' : p = a := Option.some.inj e
    subst e'
    rcases hr with hr | ⟨o, hr⟩
    · have := hs.keep _ _ hS.2 hr
      rw [a5] at this
      cases this
    · have := hs.keep _ _ hS.2 hr
      rw [a5] at this
      cases this
  have b1 := hs.ext a1 a2 a3 a4
  have b2 : HS { c with pool := some p } G' σ H' ds xs := b1.topool hc a7 a8 a6 n5 n3 n2 fun i ys q1 q2 => by
    obtain ⟨v, e2, p', us', rfl, b1, _⟩ := hs.slots i _ q1
    rw [q2] at e2
    have ep : p = p' := V.ref.inj (Option.some.inj (Option.some.inj e2))
    rw [← ep, a5] at b1
    cases b1
  have b3 := b2.set (i := i) (v := .ref p) (w := .v (.ref p)) rfl fun xs z => by cases z
  refine hx p sq G' _ H' b3 D' ⟨?_, ?_, ?_, ?_⟩
  · exact fun G3 σ3 H3 ds3 pl3 h3 e3 g3 => f.nx G3 σ3 H3 ds3 [] (h3.offpool hc n5) (a3.trans e3) g3
  · intro v G3 σ3 H3 ds3 w3 pl3 h3 e3 q3 g3
    refine f.rt v G3 σ3 H3 ds3 w3 [] (h3.offpool hc n5) (a3.trans e3) ?_ g3
    cases w3 with
    | d x => exact q3
    | v x => exact q3
    | o ys =>
      obtain ⟨p', vs, rfl, a1, a2, a3, a4, a5, a6, a7⟩ := q3
      exact ⟨p', vs, rfl, a1, a2, a3, a4, a5, by rw [hc]; simp, a7⟩
  · exact fun G3 σ3 H3 ds3 pl3 h3 e3 g3 => f.bk G3 σ3 H3 ds3 [] (h3.offpool hc n5) (a3.trans e3) g3
  · exact fun G3 σ3 H3 ds3 pl3 h3 e3 g3 => f.ct G3 σ3 H3 ds3 [] (h3.offpool hc n5) (a3.trans e3) g3
end
end PD

/-! PD64: a dict of numbers made by a comprehension, handed back; its keys gone through -/
namespace PD
open PySem PySem.Spec PyProof.Rows L2 Evl
def vsI (tb : List (Int × Int)) : List (Key × V) := tb.map fun e => (.inl e.1, .int e.2)
theorem vsI_app (tb : List (Int × Int)) (k x : Int) : vsI (tb ++ [(k, x)]) = vsI tb ++ [(.inl k, .int x)] := by unfold vsI; rw [List.map_append]; rfl
theorem vsI_len (tb : List (Int × Int)) : (vsI tb).length = tb.length := by unfold vsI; rw [List.length_map]
theorem vsI_none {k : Int} : ∀ {tb : List (Int × Int)}, (∀ e ∈ tb, e.1 ≠ k) → valV (vsI tb) (.inl k) = none
  | [], _ => rfl
  | e :: tb, h => by
    show valV ((.inl e.1, .int e.2) :: vsI tb) (.inl k) = none
    rw [valV_cons', if_neg (fun z => h e List.mem_cons_self (Sum.inl.inj z))]
    exact vsI_none fun x hx => h x (List.mem_cons_of_mem _ hx)
theorem vsI_some {k x : Int} : ∀ {tb : List (Int × Int)}, (tb.map (·.1)).Nodup → (k, x) ∈ tb → valV (vsI tb) (.inl k) = some (.int x)
  | [], _, h => nomatch h
  | e :: tb, nd, h => by
    show valV ((.inl e.1, .int e.2) :: vsI tb) (.inl k) = _
    rw [valV_cons']
    rcases List.mem_cons.mp h with z | z
    · rw [← z, if_pos rfl]
    · rw [List.map_cons, List.nodup_cons] at nd
      rw [if_neg fun q => nd.1 (by rw [Sum.inl.inj q]; exact List.mem_map.mpr ⟨_, z, rfl⟩)]
      exact vsI_some nd.2 z
section
variable {c : Cn} {K : PySem.W.Frag} {ds : DS} {pl : List D} {D' : Ends} {G0 G H : Hp} {σ : L2.St} {E : EE} {Φ : W → List D → Prop} {te tk tv : TE} {tt : TT} {tr : TA} {j : Nat}
theorem HS.backN (no : Nod ds) (h : HS c G σ H ds pl) {c3 : Cn} {G3 H3 : Hp} {σ2 : L2.St} {ds2 : DS} {p3 : List D} (h3 : HS c3 G3 σ2 H3 ds2 p3) (e : Ex G G3) : HS c3 G3 σ H3 ds p3 :=
  ⟨h3.sub, h3.gh, h3.gq, h3.gn, h3.keep, h3.pl, h3.pin, h3.hid, h.len, fun i w q => by
    obtain ⟨v, e1, e2⟩ := h.slots i w q
    refine ⟨v, e1, ?_⟩
    cases w with
    | d x => exact R.up e2 e
    | v x => exact e2
    | o xs => exact absurd q (no i xs), fun i j p xs ys q1 => absurd q1 (no i xs)⟩
abbrev tbF (f : Int → Int) (xs : List Int) : List (Int × Int) := xs.map fun x => (x, f x)
/-- return {x: f(x) for x in xs} -/
theorem wsk_retDc {tl : TE} (xs : List Int) (f : Int → Int) (nd : xs.Nodup) (hl : xs.length < sizeLine) (no : Nod ds) (hj : j < ds.length) (hc : c.pool = none)
    (h : WE c tl ds pl (isD fun d p1 => d = .list (xs.map PyData.int) ∧ p1 = pl))
    (step : ∀ x, x ∈ xs → ∀ P, Fresh c P → WE (c.pinP P) tv ((wipeD ds [j]).set j (some (.d (.int x)))) pl fun w p1 => w = .d (.int (f x)) ∧ p1 = pl)
    (hk : ∀ p H', Ex c.H0 H' → Ex (one p (.dK (vsI (tbF f xs)))) H' → c.H0 p = none → D'.rt (.ref p) H') :
    WSK c (tRet (tDc (iList K tl) (gName j) tYes (tVar j) tv [j])) ds pl D' G0 := fun G σ H hs e => by
  refine h G σ H hs _ ?_
  rintro v G1 H1 w p1 h1 e1 f1 g1
  match w, f1, g1 with
  | .d d, f1, ⟨ed, ep⟩ =>
    subst ed
    subst ep
    cases f1 with
    | @lst a vs _ a1 b1 =>
    have evs : vs = xs.map V.int := b1.ints
    subst evs
    refine ⟨a, rfl, ⟨_, SqL.of (h1.sub _ _ a1)⟩, fun Dl hD => ?_⟩
    have n1 := h1.none_of hD
    have F0 : ∀ o, Fresh c (one Dl o) := fun o b u q => by
      obtain ⟨rfl, rfl⟩ := one_some q
      exact ⟨n1.2.2.2.2, n1.2.2.1, n1.2.1, n1.2.2.2.1⟩
    refine ⟨fun i m H' => m = xs.length - i ∧ i ≤ xs.length ∧ ∃ G', HS (c.pinP (one Dl (.dK (vsI (tbF f (xs.take i)))))) G' σ H' ds p1 ∧ Ex G1 G', ⟨xs.length, by simp, Nat.zero_le _, G1, h1.pinNew (Ex.new hD) (fun b u q => by
      obtain ⟨rfl, rfl⟩ := one_some q
      exact ⟨upd_same, hD⟩), Ex.refl _⟩, ?_⟩
    rintro i m H' ⟨rfl, hi, G', h2, e2⟩
    have sq : SqL K H' a (xs.map V.int) := SqL.of (h2.sub _ _ (e2 _ _ a1))
    by_cases hlt : i < xs.length
    · refine .inr ⟨⟨_, .int xs[i], sq, by simp [hlt]⟩, fun H3 => ∃ G', HS (c.pinP (one Dl (.dK (vsI (tbF f (xs.take (i + 1))))))) G' σ H3 ds p1 ∧ Ex G1 G', fun H3 q => ⟨xs.length - (i + 1), by omega, rfl, hlt, q⟩, ?_⟩
      rintro x H3 ⟨rfl, y⟩
      have hx : V.int xs[i] = x := by
        have := y _ sq
        rw [List.getElem?_map, List.getElem?_eq_getElem hlt] at this
        exact Option.some.inj this
      subst hx
      have hw : HS (c.pinP (one Dl (.dK (vsI (tbF f (xs.take i)))))) G' ((L2.wipe σ [j]).set j (some (.int xs[i]))) H3 ((wipeD ds [j]).set j (some (.d (.int xs[i])))) p1 := (h2.wipe [j]).set (w := .d (.int xs[i])) (R.int _) fun xs z => by cases z
      refine ⟨wipe_set σ j _, ?_⟩
      dsimp only [tYes]
      rw [if_pos rfl]
      obtain ⟨u, s1, s2⟩ := hw.slots j (.d (.int xs[i])) (by rw [List.getElem?_set_self (by show j < (ds.set j none).length; rw [List.length_set]; exact hj)])
      have s2' : R G' u (.int xs[i]) := s2
      cases s2'
      refine ⟨_, s1, ?_⟩
      refine step xs[i] (List.getElem_mem hlt) _ (F0 _) G' _ H3 hw _ ?_
      rintro z G3 H5 w p3 h3 e3 f3 ⟨rfl, rfl⟩
      have f3' : R G3 z (.int (f xs[i])) := f3
      cases f3'
      have hDl : H5 Dl = some (.dK (vsI (tbF f (xs.take i)))) := h3.pin _ _ (pinP_at one_at)
      refine ⟨_, .inl xs[i], rfl, hDl, ?_, G3, ?_, e2.trans e3⟩
      · rw [vsI_len, List.length_map, List.length_take]
        exact Nat.lt_of_le_of_lt (Nat.min_le_right _ _) hl
      · obtain ⟨_, h4⟩ := (h2.backN no h3 e3).repin (o' := .dK (putK (vsI (tbF f (xs.take i))) (.inl xs[i]) (.int (f xs[i])))) (F0 _) one_at
        rw [one_upd] at h4
        have hn : valV (vsI (tbF f (xs.take i))) (.inl xs[i]) = none := vsI_none fun e he z => by
          obtain ⟨x, hx, rfl⟩ := List.mem_map.mp he
          obtain ⟨k, hk, ek⟩ := List.mem_iff_getElem.mp hx
          rw [List.length_take] at hk
          rw [List.getElem_take] at ek
          have z' : x = xs[i] := z
          have := (List.getElem_inj nd).mp (ek.trans z')
          omega
        rw [putK_new _ _ _ hn, ← vsI_app] at h4 ⊢
        have et : tbF f (xs.take (i + 1)) = tbF f (xs.take i) ++ [(xs[i], f xs[i])] := by
          rw [List.take_add_one, List.getElem?_eq_getElem hlt]
          show List.map _ (_ ++ [_]) = _
          rw [List.map_append]
          rfl
        rw [et]
        exact h4
    · have ei : i = xs.length := by omega
      subst ei
      refine .inl ⟨⟨_, sq, by rw [List.length_map]; exact Nat.le_refl _⟩, ?_⟩
      rw [List.take_length] at h2
      exact hk Dl H' (fun b o q => h2.keep b o (by rw [show (c.pinP _).pool = c.pool from rfl, hc]; simp) q) (fun b o q => h2.pin b o (pinP_at q)) n1.2.2.2.2
theorem lc_turnK (J : Nat → List D → List D → Prop) {G1 : Hp} {Dl : Addr} {i : Nat} {v : V} {x : D} {H' : Hp} (f : DF c σ ds Dl) (hj : ∀ (xs : List D), ds[j]? ≠ some (some (W.o xs))) (p : PvC c σ ds G1 Dl J i H') (hx : ∀ G', Ex G1 G' → R G' v x)
    (user : ∀ acc pl', J i acc pl' → ∀ o, WT (c.with Dl o) tt ((wipeD ds [j]).set j (some (.d x))) pl' fun b p2 => if b = true then WE (c.with Dl o) te ((wipeD ds [j]).set j (some (.d x))) p2
      (isD fun y p3 => acc.length < sizeLine ∧ J (i + 1) (acc ++ [y]) p3) else J (i + 1) acc p2) :
    tt ((L2.wipe σ [j]).set j (some v)) H' fun b H3 => if b = true then te ((L2.wipe σ [j]).set j (some v)) H3 fun y H4 => ∃ acc, H4 Dl = some (.lst acc) ∧ acc.length < sizeLine ∧ PvC c σ ds G1 Dl J (i + 1) (upd H4 Dl (.lst (acc ++ [y]))) else PvC c σ ds G1 Dl J (i + 1) H3 := by
  obtain ⟨G', pl', acc, us, h, e1, hD, ra, gD, hJ⟩ := p
  have hw : HS c G' ((L2.wipe σ [j]).set j (some v)) H' ((wipeD ds [j]).set j (some (.d x))) pl' := (h.wipe [j]).set (w := .d x) (hx G' e1) fun xs z => by cases z
  have same : ∀ (i : Nat) (xs : List D), ds[i]? = some (some (W.o xs)) → ((wipeD ds [j]).set j (some (.d x)))[i]? = some (some (W.o xs)) ∧ ((L2.wipe σ [j]).set j (some v))[i]? = σ[i]? := fun i xs q => by
    have ne : j ≠ i := fun e => hj xs (e ▸ q)
    have nm : i ∉ [j] := fun z => ne (List.mem_singleton.mp z).symm
    rw [List.getElem?_set_ne ne, List.getElem?_set_ne ne, wipeD_ne nm, wipe_ne nm]
    exact ⟨q, rfl⟩
  have f2 : DF c ((L2.wipe σ [j]).set j (some v)) ((wipeD ds [j]).set j (some (.d x))) Dl := ⟨f.h0, f.pin, f.pool, f.hd, fun i xs p q1 q2 => by
    by_cases e : j = i
    · subst e
      have hlt : j < ((wipeD ds [j])).length := by
        have := (List.getElem?_eq_some_iff.mp q1).1
        rw [List.length_set] at this
        exact this
      rw [List.getElem?_set_self hlt] at q1
      cases q1
    · have nm : i ∉ [j] := fun z => e (List.mem_singleton.mp z).symm
      rw [List.getElem?_set_ne e, wipeD_ne nm] at q1
      rw [List.getElem?_set_ne e, wipe_ne nm] at q2
      exact f.ne i xs p q1 q2⟩
  refine user acc pl' hJ _ G' _ H' (hw.to_with f2 hD gD) _ fun b G2 H2 p2 h2 e2 g2 => ?_
  cases b with
  | true =>
    refine (show WE _ te _ p2 _ from g2) G2 _ H2 h2 _ fun y G3 H3 w p3 h3 e3 f3 g3 => ?_
    match w, f3, g3 with
    | .d z, f3, ⟨g3, g4⟩ =>
      have b3 := h.back f h3 (e2.trans e3) same
      have dD : G3 Dl = none := h3.gn Dl _ with_at
      exact ⟨us, h3.pin Dl _ with_at, by rw [ra.len]; exact g3, G3, p3, acc ++ [z], us ++ [y], b3.push f dD, e1.trans (e2.trans e3), upd_same, (ra.up (e2.trans e3)).app (.cons f3 .nil), dD, g4⟩
  | false =>
    exact ⟨G2, p2, acc, us, h.back f h2 e2 same, e1.trans e2, h2.pin Dl _ with_at, ra.up e2, h2.gn Dl _ with_at, g2⟩
/-- over the keys of a locked dict -/
theorem we_lcK {id : Nat} {p : Addr} {od : Obj} (J : Nat → List D → List D → Prop) (tb : List (Int × Int)) (hj : ∀ (xs : List D), ds[j]? ≠ some (some (W.o xs))) (hid : ds[id]? = some (some (.v (.ref p)))) (hp : c.pin p = some (.frz od (.dK (vsI tb)))) (h : J 0 [] pl)
    (user : ∀ (i : Nat) e acc pl', tb[i]? = some e → J i acc pl' → ∀ Dl o, (c.with Dl o).pin p = some (.frz od (.dK (vsI tb))) → WT (c.with Dl o) tt ((wipeD ds [j]).set j (some (.d (.int e.1)))) pl' fun b p2 => if b = true then WE (c.with Dl o) te ((wipeD ds [j]).set j (some (.d (.int e.1)))) p2
      (isD fun y p3 => acc.length < sizeLine ∧ J (i + 1) (acc ++ [y]) p3) else J (i + 1) acc p2)
    (hq : ∀ acc pl', J tb.length acc pl' → Φ (.d (.list acc)) pl') : WE c (tLc (iKeys (tVar id)) (gName j) tt te [j]) ds pl Φ := fun G σ H h0 Q q => by
  obtain ⟨v, z1, z2⟩ := h0.slots id _ hid
  have z2' : v = .ref p := z2
  subst z2'
  refine ⟨_, z1, p, od, rfl, .inl ⟨_, h0.pin _ _ hp, fun Dl hD => ?_⟩⟩
  have f := df_new h0 hD
  have ne : p ≠ Dl := fun e => by
    rw [e, f.pin] at hp
    cases hp
  refine ⟨fun i m H' => m = tb.length - i ∧ i ≤ tb.length ∧ PvC c σ ds G Dl J i H', ⟨tb.length, by simp, Nat.zero_le _, pv_start J h0 hD h⟩, ?_⟩
  rintro i m H' ⟨rfl, hi, pv⟩
  have hf : H' p = some (.frz od (.dK (vsI tb))) := by
    obtain ⟨G', pl', acc, us, h2, _⟩ := pv
    exact h2.pin _ _ hp
  by_cases hlt : i < tb.length
  · refine .inr ⟨⟨hf, by rw [vsI_len]; exact hlt⟩, fun H3 => PvC c σ ds G Dl J (i + 1) H3, fun H3 q => ⟨tb.length - (i + 1), by omega, rfl, hlt, q⟩, ?_⟩
    rintro x H3 ⟨rfl, k, v, hk, rfl⟩
    have ek : k = .inl tb[i].1 := by
      unfold vsI at hk
      rw [List.getElem?_map, List.getElem?_eq_getElem hlt] at hk
      exact (Prod.mk.inj (Option.some.inj hk)).1.symm
    subst ek
    exact ⟨wipe_set σ j _, lc_turnK J f hj pv (x := .int tb[i].1) (fun G' e => R.int _) fun acc pl' hJ o => user i tb[i] acc pl' (List.getElem?_eq_getElem hlt) hJ Dl o (by rw [with_ne ne]; exact hp)⟩
  · have ei : i = tb.length := by omega
    subst ei
    exact .inl ⟨⟨hf, by rw [vsI_len]; exact Nat.le_refl _⟩, pv_end f pv hq q⟩
/-- an entry of a locked dict -/
theorem we_dgetK {id : Nat} {p : Addr} {od : Obj} {tb : List (Int × Int)} {k x : Int} (nd : (tb.map (·.1)).Nodup) (hp : c.pin p = some (.frz od (.dK (vsI tb)))) (hid : ds[id]? = some (some (.v (.ref p)))) (hj : ds[j]? = some (some (.d (.int k)))) (hx : (k, x) ∈ tb) (h : Φ (.d (.int x)) pl) :
    WE c (tDGet (tVar id) (tVar j)) ds pl Φ := fun G σ H h0 Q q => by
  obtain ⟨v, z1, z2⟩ := h0.slots id _ hid
  have z2' : v = .ref p := z2
  subst z2'
  obtain ⟨u, y1, y2⟩ := h0.slots j _ hj
  have y2' : R G u (.int k) := y2
  cases y2'
  refine ⟨_, z1, _, y1, p, .int x, rfl, ?_, q _ G H (.d (.int x)) pl h0 (Ex.refl _) (R.int x) h⟩
  exact .inl ⟨_, .inl k, .inr ⟨od, h0.pin _ _ hp⟩, rfl, (vsI_some nd hx).symm⟩
/-- return [.. for k in d ..], the dict locked -/
theorem wsk_retLockK {id : Nat} {p : Addr} (ft : Fits c G0 D' E) (J : Nat → List D → List D → Prop) (tb : List (Int × Int)) (F : Fresh c (one p (.dK (vsI tb)))) (hj : ∀ (xs : List D), ds[j]? ≠ some (some (W.o xs))) (hid : ds[id]? = some (some (.v (.ref p)))) (h : J 0 [] pl)
    (user : ∀ (i : Nat) e acc pl', tb[i]? = some e → J i acc pl' → ∀ (c' : Cn) od, c'.pin p = some (.frz od (.dK (vsI tb))) → WT c' tt ((wipeD ds [j]).set j (some (.d (.int e.1)))) pl' fun b p2 => if b = true then WE c' te ((wipeD ds [j]).set j (some (.d (.int e.1)))) p2
      (isD fun y p3 => acc.length < sizeLine ∧ J (i + 1) (acc ++ [y]) p3) else J (i + 1) acc p2)
    (hq : ∀ acc pl', J tb.length acc pl' → E.rt (.d (.list acc)) pl') : WSK (c.pinP (one p (.dK (vsI tb)))) (tRet (tLockE (tLc (iKeys (tVar id)) (gName j) tt te [j]))) ds pl D' G0 := fun G σ H hs e => by
  obtain ⟨z1, z2⟩ := dict_at hs hid one_at
  refine ⟨p, .dK _, z2, True.intro, fun od => ?_⟩
  obtain ⟨F2, h2⟩ := hs.repin (o' := .frz od (.dK (vsI tb))) F one_at
  rw [one_upd] at F2 h2
  refine we_lcK (od := od) (Φ := isD fun d p1 => E.rt (.d d) p1) J tb hj hid (pinP_at one_at) h (fun i e acc pl' h1 h2 Dl o h3 => user i e acc pl' h1 h2 _ od h3) hq G σ _ h2 _ ?_
  rintro v G3 H3 w p3 h3 e3 f3 g3
  refine ⟨h3.pin _ _ (pinP_at one_at), ?_⟩
  obtain ⟨F4, h4⟩ := h3.repin (o' := .dK (vsI tb)) F2 one_at
  rw [one_upd] at F4 h4
  have h5 := h4.unpin (H' := upd H3 p (.dK (vsI tb))) (fun a o q => ⟨(F4 a o q).1, (F4 a o q).2.1⟩) (fun a _ => rfl) (fun a o q => ⟨_, h4.pin a o (pinP_at q)⟩)
  match w, f3, g3 with
  | .d d, f3, g3 => exact ft.hide.rt v G3 σ _ ds (.d d) p3 h5 (e.trans e3) f3 g3
end
end PD

/-! PD65: heights held and stuck; rows of spans -/
namespace PD
open PySem PySem.Spec PyProof.Rows L2 Evl
def heldN (v : Dv) (arm : Int) (n : Nat) : List Int := ((List.range n).map fun (h : Nat) => (h : Int)).filter fun h => held v (h, arm)
abbrev heldL (v : Dv) (arm : Int) : List Int := heldN v arm (lcmV v).toNat
theorem heldN_succ (v : Dv) (arm : Int) (n : Nat) : heldN v arm (n + 1) = heldN v arm n ++ (if held v ((n : Int), arm) = true then [(n : Int)] else []) := by
  unfold heldN
  rw [List.range_succ, List.map_append, List.filter_append]
  by_cases h : held v ((n : Int), arm) = true
  · rw [if_pos h]
    show _ ++ List.filter _ [(n : Int)] = _
    rw [List.filter_cons_of_pos (p := fun h => held v (h, arm)) h]; rfl
  · rw [if_neg h]
    show _ ++ List.filter _ [(n : Int)] = _
    rw [List.filter_cons_of_neg (p := fun h => held v (h, arm)) h]; rfl
theorem heldN_mem {v : Dv} {arm : Int} {n : Nat} {x : Int} : x ∈ heldN v arm n ↔ 0 ≤ x ∧ x < (n : Int) ∧ held v (x, arm) = true := by
  unfold heldN
  rw [List.mem_filter, List.mem_map]
  constructor
  · rintro ⟨⟨h, h1, rfl⟩, h2⟩
    have := List.mem_range.mp h1
    exact ⟨by omega, by omega, h2⟩
  · rintro ⟨h1, h2, h3⟩
    exact ⟨⟨x.toNat, List.mem_range.mpr (by omega), by omega⟩, h3⟩
theorem heldN_len (v : Dv) (arm : Int) (n : Nat) : (heldN v arm n).length ≤ n := by
  unfold heldN
  exact Nat.le_trans (List.length_filter_le _ _) (by rw [List.length_map, List.length_range]; exact Nat.le_refl _)
theorem heldN_nd (v : Dv) (arm : Int) (n : Nat) : (heldN v arm n).Nodup := by
  unfold heldN
  refine List.nodup_iff_pairwise_ne.mpr (List.Pairwise.filter _ (List.pairwise_map.mpr ?_))
  exact (List.nodup_iff_pairwise_ne.mp List.nodup_range).imp fun h e => h (by omega)
theorem heldL_ne {v : Dv} (ok : v.Ok) (arm : Int) : heldL v arm ≠ [] := fun e => by
  obtain ⟨h, hh⟩ := held_ex (v := v) ok arm
  obtain ⟨cm, _⟩ := com_lcmV ok
  have L0 := cm.pos
  have p := cm.plc (h % lcmV v) arm (h / lcmV v)
  have m1 := Int.emod_nonneg h (show lcmV v ≠ 0 by omega)
  have m2 := Int.emod_lt_of_pos h L0
  rw [Int.emod_add_mul_ediv] at p
  have hm : h % lcmV v ∈ heldL v arm := heldN_mem.mpr ⟨m1, by omega, by
    have d1 := Int.emod_emod_of_dvd h (Int.dvd_of_emod_eq_zero cm.d1)
    have k1 : ∃ a, h = h % lcmV v + v.1.p * a := ⟨lcmV v / v.1.p * (h / lcmV v), by
      have e1 : v.1.p * (lcmV v / v.1.p) = lcmV v := Int.mul_ediv_cancel' (Int.dvd_of_emod_eq_zero cm.d1)
      rw [← Int.mul_assoc, e1, Int.emod_add_mul_ediv]⟩
    have k2 : ∃ a, h = h % lcmV v + v.2.p * a := ⟨lcmV v / v.2.p * (h / lcmV v), by
      have e1 : v.2.p * (lcmV v / v.2.p) = lcmV v := Int.mul_ediv_cancel' (Int.dvd_of_emod_eq_zero cm.d2)
      rw [← Int.mul_assoc, e1, Int.emod_add_mul_ediv]⟩
    obtain ⟨a, ha⟩ := k1
    obtain ⟨b, hb⟩ := k2
    have := held_up (v := v) (s := h % lcmV v - h) (a := -a) (b := -b) (by rw [Int.mul_neg]; omega) (by rw [Int.mul_neg]; omega) hh
    rw [show h + (h % lcmV v - h) = h % lcmV v by omega] at this
    exact this⟩
  rw [e] at hm
  cases hm
def stuckL (v : Dv) (arm : Int) (ms : List Int) : List Int := (heldL v arm).filter fun h => decide ((mvs v (h, arm) ms).1 = h)
theorem pumpU {v : Dv} (ok : v.Ok) {s : Sv} {w : Int} (w0 : 0 < w) (hs : held v s = true) : s.1 ≤ (mvs v s [w, -w]).1 := by
  show s.1 ≤ (mv v (mv v s w) (-w)).1
  have k2 := slk_nn ok.2 (lf s)
  have e1 : (mv v s w).1 = s.1 + w - min w (slk v.2 (lf s)) := by rw [mv_up' w0]
  have e2 : (mv v (mv v s w) (-w)).1 = (mv v s w).1 - min w (slk v.1 (mv v s w).1) := by rw [mv_down' (by omega), Int.neg_neg]
  rw [e2]
  unfold held at hs
  rcases Bool.or_eq_true _ _ ▸ hs with h | h
  · have f1 := flo_of ok.1 h
    have f2 := flo_mono ok.1 (show s.1 ≤ (mv v s w).1 by omega)
    have f3 : slk v.1 (mv v s w).1 = (mv v s w).1 - flo v.1 (mv v s w).1 := rfl
    omega
  · have f1 := flo_of ok.2 h
    have f3 : slk v.2 (lf s) = lf s - flo v.2 (lf s) := rfl
    have f4 : lf s = s.1 - s.2 := rfl
    rw [f4, f1] at f3
    rw [f4] at e1
    omega
theorem rpU {v : Dv} (ok : v.Ok) {s : Sv} {w : Int} (w0 : 0 < w) (hs : held v s = true) (i : Nat) : ∀ k : Nat, (rp v [w, -w] s i).1 ≤ (rp v [w, -w] s (i + k)).1
  | 0 => Int.le_refl _
  | k + 1 => Int.le_trans (rpU ok w0 hs i k) (pumpU ok w0 (rp_held ok _ hs (i + k)))
theorem stuck_iff {v : Dv} (ok : v.Ok) {w arm t b : Int} (w0 : 0 < w) (mn : Mean v [w, -w] arm t b) : t = 0 ↔ stuckL v arm [w, -w] ≠ [] := by
  have s0 : ([w, -w] : List Int).sum = 0 := by simp; omega
  obtain ⟨cm, _⟩ := com_lcmV ok
  have L0 := cm.pos
  constructor
  · intro t0 e
    obtain ⟨h, hh⟩ := held_ex (v := v) ok arm
    obtain ⟨n, j, cy⟩ := cyc_ex (v := v) (ms := [w, -w]) (s := (h, arm)) ok
    have me := mn.eq h n j cy
    have lt := cy.lt
    rw [t0, Int.zero_mul] at me
    have z : (rp v [w, -w] (h, arm) n).1 - (rp v [w, -w] (h, arm) j).1 = 0 := by
      rcases Int.mul_eq_zero.mp me.symm with q | q
      · have := mn.b0; omega
      · exact q
    have m1 := rpU ok w0 hh j 1
    have m2 := rpU ok w0 hh (j + 1) (n - (j + 1))
    rw [show j + 1 + (n - (j + 1)) = n by omega] at m2
    have st : (rp v [w, -w] (h, arm) (j + 1)).1 = (rp v [w, -w] (h, arm) j).1 := by omega
    obtain ⟨x, hx⟩ : ∃ x, (rp v [w, -w] (h, arm) j).1 = x := ⟨_, rfl⟩
    have er : rp v [w, -w] (h, arm) j = (x, arm) := by
      have e2 := rp_hand v [w, -w] (h, arm) j
      rw [s0, Int.mul_zero, Int.add_zero] at e2
      ext
      · exact hx
      · exact e2
    have hx2 : held v (x, arm) = true := by rw [← er]; exact rp_held ok _ hh j
    have sx : (mvs v (x, arm) [w, -w]).1 = x := by
      rw [← er]
      exact st.trans (by rw [er])
    have p := cm.plc (x % lcmV v) arm (x / lcmV v)
    have m1 := Int.emod_nonneg x (show lcmV v ≠ 0 by omega)
    have m2 := Int.emod_lt_of_pos x L0
    rw [Int.emod_add_mul_ediv] at p
    have sh := mvs_shift ok [w, -w] p.symm
    have hy : held v (x % lcmV v, arm) = true := by
      obtain ⟨k1, e1⟩ := mod_eq_shift (congrArg Prod.fst p.symm)
      obtain ⟨k2, e2⟩ := mod_eq_shift (congrArg Prod.snd p.symm)
      have e1' : x % lcmV v = x + v.1.p * k1 := e1
      have e2' : x % lcmV v - arm = x - arm + v.2.p * k2 := e2
      have := held_up (v := v) (s := x % lcmV v - x) (a := k1) (b := k2) (by omega) (by omega) hx2
      rw [show x + (x % lcmV v - x) = x % lcmV v by omega] at this
      exact this
    have sy : (mvs v (x % lcmV v, arm) [w, -w]).1 = x % lcmV v := by
      rw [sh]
      show (mvs v (x, arm) [w, -w]).1 + (x % lcmV v - x) = _
      rw [sx]; omega
    have hm : x % lcmV v ∈ stuckL v arm [w, -w] := List.mem_filter.mpr ⟨heldN_mem.mpr ⟨m1, by omega, hy⟩, decide_eq_true sy⟩
    rw [e] at hm
    cases hm
  · intro ne
    obtain ⟨x, hx⟩ := List.exists_mem_of_ne_nil _ ne
    obtain ⟨h1, h2⟩ := List.mem_filter.mp hx
    have sx : (mvs v (x, arm) [w, -w]).1 = x := of_decide_eq_true h2
    have e1 : rp v [w, -w] (x, arm) 1 = (x, arm) := by
      have e2 := rp_hand v [w, -w] (x, arm) 1
      rw [s0, Int.mul_zero, Int.add_zero] at e2
      ext
      · exact sx
      · exact e2
    have := (mn.told ok (y := x) (k := 1) (by decide) (by rw [e1])).1
    rw [e1] at this
    have z : (x - x) * b = t * ((1 : Nat) : Int) := this
    rw [Int.sub_self, Int.zero_mul] at z
    omega
/-! ### rows -/
theorem rowsF_snd (v : Dv) (arm : Int) (n : Nat) : (rowsF v arm (n + 1)).2 = mOf v arm ((n : Int) + 1) := by
  by_cases e : mOf v arm ((n : Int) + 1) = (rowsF v arm n).2
  · rw [rowsF_no e, e]
  · rw [rowsF_yes e]
theorem rowsF_end (v : Dv) (arm : Int) : ∀ n : Nat, ((0, 1) :: (rowsF v arm n).1.map (·.2)).getLast? = some (rowsF v arm n).2
  | 0 => rfl
  | n + 1 => by
    by_cases e : mOf v arm ((n : Int) + 1) = (rowsF v arm n).2
    · rw [rowsF_no e]; exact rowsF_end v arm n
    · rw [rowsF_yes e]
      show ((0, 1) :: (List.map _ (_ ++ [_]))).getLast? = _
      rw [List.map_append, ← List.cons_append]
      exact List.getLast?_concat
theorem rowsF_cut {v : Dv} (ok : v.Ok) {arm : Int} {n : Nat} : ∀ k : Nat, (rowsF v arm (n + k)).1.filter (fun q => decide (q.1 < (n : Int) + 1)) = (rowsF v arm n).1
  | 0 => List.filter_eq_self.mpr fun q hq => decide_eq_true (by have := (rowsF_in ok n q hq).2.1; omega)
  | k + 1 => by
    show (rowsF v arm (n + k + 1)).1.filter _ = _
    by_cases e : mOf v arm (((n + k : Nat) : Int) + 1) = (rowsF v arm (n + k)).2
    · rw [rowsF_no e]; exact rowsF_cut ok k
    · rw [rowsF_yes e, List.filter_append, rowsF_cut ok k, List.filter_cons_of_neg (by rw [decide_eq_true_eq]; show ¬ ((n + k : Nat) : Int) + 1 < _; omega)]
      exact List.append_nil _
/-- a row is where its mean comes first -/
theorem rowsF_new {v : Dv} {arm : Int} : ∀ (N : Nat), ∀ q ∈ (rowsF v arm N).1, ∃ n : Nat, n < N ∧ q.1 = (n : Int) + 1 ∧ q.2 = mOf v arm ((n : Int) + 1) ∧ q.2 ≠ (rowsF v arm n).2
  | 0, q, h => nomatch h
  | N + 1, q, h => by
    by_cases e : mOf v arm ((N : Int) + 1) = (rowsF v arm N).2
    · rw [rowsF_no e] at h
      obtain ⟨n, h1, h2⟩ := rowsF_new N q h
      exact ⟨n, by omega, h2⟩
    · rw [rowsF_yes e] at h
      rcases List.mem_append.mp h with z | z
      · obtain ⟨n, h1, h2⟩ := rowsF_new N q z
        exact ⟨n, by omega, h2⟩
      · rw [List.mem_singleton.mp z]
        exact ⟨N, by omega, rfl, rfl, e⟩
theorem frac_ne {t b t' b' : Int} (b0 : 0 < b) (b0' : 0 < b') (c : Nat.gcd t.natAbs b.natAbs = 1) (c' : Nat.gcd t'.natAbs b'.natAbs = 1) (t0 : 0 ≤ t) (t0' : 0 ≤ t') (e : t * b' = t' * b) : t = t' ∧ b = b' := by
  have e' : t.natAbs * b'.natAbs = t'.natAbs * b.natAbs := by rw [← Int.natAbs_mul, ← Int.natAbs_mul, e]
  have d1 : b.natAbs ∣ b'.natAbs := Nat.Coprime.dvd_of_dvd_mul_left (Nat.Coprime.symm c) ⟨t'.natAbs, by rw [e', Nat.mul_comm]⟩
  have d2 : b'.natAbs ∣ b.natAbs := Nat.Coprime.dvd_of_dvd_mul_left (Nat.Coprime.symm c') ⟨t.natAbs, by rw [← e', Nat.mul_comm]⟩
  have eb : b.natAbs = b'.natAbs := Nat.dvd_antisymm d1 d2
  have ebI : b = b' := by omega
  subst ebI
  exact ⟨Int.eq_of_mul_eq_mul_right (by omega) e, rfl⟩
/-- ahead of a row all means are less -/
theorem row_less {v : Dv} (ok : v.Ok) {arm : Int} {N : Nat} {q : Int × Int × Int} (hq : q ∈ (rowsF v arm N).1) {z t b : Int} (z1 : 1 ≤ z) (zq : z < q.1) (m : Mean v [z, -z] arm t b) : t * q.2.2 < q.2.1 * b := by
  obtain ⟨n, hn, e1, e2, e3⟩ := rowsF_new N q hq
  have mq : Mean v [q.1, -q.1] arm q.2.1 q.2.2 := (rowsF_in ok N q hq).2.2
  obtain ⟨k, hk⟩ : ∃ k : Nat, n = k + 1 := ⟨n - 1, by omega⟩
  subst hk
  rw [rowsF_snd] at e3
  have mk := mOf_mean ok arm ((k : Int) + 1)
  have u1 := Mean.up ok (by omega) (show z ≤ (k : Int) + 1 by omega) m mk
  have u2 := Mean.up ok (by omega) (show (k : Int) + 1 ≤ q.1 by omega) mk mq
  have ne : ¬ (mOf v arm ((k : Int) + 1)).1 * q.2.2 = q.2.1 * (mOf v arm ((k : Int) + 1)).2 := fun e => by
    obtain ⟨a, b⟩ := frac_ne mk.b0 mq.b0 mk.low mq.low mk.t0 mq.t0 e
    exact e3 (Prod.ext a.symm b.symm)
  have u3 : (mOf v arm ((k : Int) + 1)).1 * q.2.2 < q.2.1 * (mOf v arm ((k : Int) + 1)).2 := by omega
  have b0 := m.b0
  have bk := mk.b0
  have bq := mq.b0
  -- t/b ≤ mk < mq
  have h1 : t * (mOf v arm ((k : Int) + 1)).2 * q.2.2 ≤ (mOf v arm ((k : Int) + 1)).1 * b * q.2.2 := Int.mul_le_mul_of_nonneg_right u1 (by omega)
  have h2 : (mOf v arm ((k : Int) + 1)).1 * q.2.2 * b < q.2.1 * (mOf v arm ((k : Int) + 1)).2 * b := Int.mul_lt_mul_of_pos_right u3 b0
  have h3 : t * q.2.2 * (mOf v arm ((k : Int) + 1)).2 < q.2.1 * b * (mOf v arm ((k : Int) + 1)).2 := by
    have a1 : t * q.2.2 * (mOf v arm ((k : Int) + 1)).2 = t * (mOf v arm ((k : Int) + 1)).2 * q.2.2 := by rw [Int.mul_assoc, Int.mul_assoc, Int.mul_comm q.2.2]
    have a2 : (mOf v arm ((k : Int) + 1)).1 * b * q.2.2 = (mOf v arm ((k : Int) + 1)).1 * q.2.2 * b := by rw [Int.mul_assoc, Int.mul_assoc, Int.mul_comm b]
    have a3 : q.2.1 * (mOf v arm ((k : Int) + 1)).2 * b = q.2.1 * b * (mOf v arm ((k : Int) + 1)).2 := by rw [Int.mul_assoc, Int.mul_assoc, Int.mul_comm b]
    rw [a1, ← a3]
    rw [a2] at h1
    omega
  exact Int.lt_of_mul_lt_mul_right h3 (by omega)
theorem mean_zero {v : Dv} (ok : v.Ok) {arm z b : Int} (m : Mean v [z, -z] arm 0 b) : b = 1 := by
  have := m.low
  have b0 := m.b0
  rw [show (0 : Int).natAbs = 0 by rfl, Nat.gcd_zero_left] at this
  omega
/-- the first row is the least span that climbs -/
theorem rows_first {v : Dv} (ok : v.Ok) (arm : Int) : ∃ q r, (rowsF v arm (spanN v)).1 = q :: r ∧ 1 ≤ q.1 ∧ (∀ t b, Mean v [q.1, -q.1] arm t b → 0 < t) ∧ ∀ z, 1 ≤ z → z < q.1 → ∀ t b, Mean v [z, -z] arm t b → t = 0 := by
  have sp := spanN_eq ok (com_lcmV ok).1 (com_lcmV ok).2
  have L0 := (com_lcmV ok).1.pos
  have p1 := ok.1.p1
  have q1 := ok.2.p1
  have big : ∀ t b, Mean v [(spanN v : Int), -(spanN v : Int)] arm t b → 0 < t := fun t b m => by
    have h := (m.spans ok (by omega) (slk_24 ok.1) (slk_24 ok.2)).2
    have lp : v.1.p ≤ lcmV v := Int.le_of_emod_eq_zero' L0 (by omega) (com_lcmV ok).1.d1
    have lq : v.2.p ≤ lcmV v := Int.le_of_emod_eq_zero' L0 (by omega) (com_lcmV ok).1.d2
    have b0 := m.b0
    have c : 1 ≤ (spanN v : Int) - (v.1.p - 1) - (v.2.p - 1) := by omega
    have := Int.mul_le_mul_of_nonneg_right c (show 0 ≤ b by omega)
    omega
  -- all zero as long as there is no row
  have zero : ∀ n : Nat, (rowsF v arm n).1 = [] → (rowsF v arm n).2 = (0, 1) ∧ ∀ i : Nat, i < n → mOf v arm ((i : Int) + 1) = (0, 1) := fun n => by
    induction n with
    | zero => exact fun _ => ⟨rfl, fun i hi => absurd hi (Nat.not_lt_zero _)⟩
    | succ n ih =>
      intro e
      by_cases z : mOf v arm ((n : Int) + 1) = (rowsF v arm n).2
      · rw [rowsF_no z] at e
        obtain ⟨a, b⟩ := ih e
        refine ⟨by rw [rowsF_no z]; exact a, fun i hi => ?_⟩
        rcases Nat.lt_succ_iff_lt_or_eq.mp hi with q | q
        · exact b i q
        · rw [q, z, a]
      · rw [rowsF_yes z] at e
        exact absurd e (by simp)
  have first : ∀ n : Nat, (rowsF v arm n).1 = [] ∨ ∃ q r, (rowsF v arm n).1 = q :: r ∧ ∃ k : Nat, q.1 = (k : Int) + 1 ∧ (rowsF v arm k).1 = [] ∧ q.2 = mOf v arm ((k : Int) + 1) ∧ q.2 ≠ (rowsF v arm k).2 := fun n => by
    induction n with
    | zero => exact .inl rfl
    | succ n ih =>
      by_cases z : mOf v arm ((n : Int) + 1) = (rowsF v arm n).2
      · rw [rowsF_no z]; exact ih
      · rw [rowsF_yes z]
        rcases ih with e | ⟨q, r, e, h⟩
        · exact .inr ⟨_, [], by rw [e]; rfl, n, rfl, e, rfl, z⟩
        · exact .inr ⟨q, r ++ [((n : Int) + 1, mOf v arm ((n : Int) + 1))], by rw [e]; rfl, h⟩
  rcases first (spanN v) with e | ⟨q, r, e, k, k1, k2, k3, k4⟩
  · have := (zero _ e).2 (spanN v - 1) (by omega)
    have e2 : ((spanN v - 1 : Nat) : Int) + 1 = (spanN v : Int) := by omega
    rw [e2] at this
    have m := mOf_mean ok arm (spanN v : Int)
    have := big _ _ m
    rw [‹mOf v arm (spanN v : Int) = (0, 1)›] at this
    omega
  · obtain ⟨z1, z2⟩ := zero k k2
    refine ⟨q, r, e, by omega, fun t b m => ?_, fun z h1 h2 t b m => ?_⟩
    · rw [k1] at m
      have em := mOf_eq ok m
      rw [z1, k3, ← em] at k4
      rcases Int.lt_or_eq_of_le m.t0 with y | y
      · exact y
      · subst y
        rw [mean_zero ok m] at k4
        exact absurd rfl k4
    · have := z2 (z - 1).toNat (by omega)
      rw [show (((z - 1).toNat : Nat) : Int) + 1 = z by omega] at this
      have em := mOf_eq ok m
      rw [this] at em
      exact congrArg Prod.fst em
end PD

/-! PD66: never a common pitch from the mean; cycles no longer than the held heights -/
namespace PD
open PySem PySem.Spec PyProof.Rows L2 Evl
section
variable {v : Dv} {ms : List Int} {palm L t b : Int}
theorem hx_add (s0 : ms.sum = 0) (x : Int) (i k : Nat) : hx v ms palm x (i + k) = hx v ms palm (hx v ms palm x i) k := by
  have e := hx_eta (v := v) (palm := palm) s0 x i
  show (rp v ms (x, palm) (i + k)).1 = (rp v ms (hx v ms palm x i, palm) k).1
  rw [rp_add, e]
theorem near_lo (ok : v.Ok) (s0 : ms.sum = 0) (mn : Mean v ms palm t b) (n : Nat) : ∃ y, hx v ms palm y (n * b.toNat) - y ≤ (n : Int) * t := by
  apply Classical.byContradiction
  intro ne
  have all : ∀ y, (n : Int) * t + 1 ≤ hx v ms palm y (n * b.toNat) - y := fun y => Int.not_lt.mp fun z => ne ⟨y, by omega⟩
  have grow : ∀ (m : Nat) (y : Int), y + (m : Int) * ((n : Int) * t + 1) ≤ hx v ms palm y (n * b.toNat * m) := fun m => by
    induction m with
    | zero => intro y; show y + ((0 : Nat) : Int) * _ ≤ y; rw [show ((0 : Nat) : Int) = 0 by rfl, Int.zero_mul]; omega
    | succ m ih =>
      intro y
      rw [Nat.mul_succ, hx_add s0]
      have h1 := ih y
      have h2 := all (hx v ms palm y (n * b.toNat * m))
      rw [show ((m + 1 : Nat) : Int) = (m : Int) + 1 by omega, Int.add_mul, Int.one_mul]
      omega
  obtain ⟨N, J, cy⟩ := cyc_ex (v := v) (ms := ms) (s := ((0 : Int), palm)) ok
  have me := mn.eq 0 N J cy
  have lt := cy.lt
  have many := cy.many ok 0 (n * b.toNat)
  rw [Nat.add_zero] at many
  obtain ⟨r, hr⟩ : ∃ r, (rp v ms (0, palm) N).1 - (rp v ms (0, palm) J).1 = r := ⟨_, rfl⟩
  rw [hr] at me many
  have many' : hx v ms palm 0 (J + (N - J) * (n * b.toNat)) = hx v ms palm 0 J + ((n * b.toNat : Nat) : Int) * r := many
  rw [hx_add s0] at many'
  have g := grow (N - J) (hx v ms palm 0 J)
  rw [Nat.mul_comm (n * b.toNat) (N - J), many'] at g
  have b0 := mn.b0
  have eb : ((n * b.toNat : Nat) : Int) * r = (n : Int) * (t * ((N - J : Nat) : Int)) := by
    rw [Int.natCast_mul, Int.toNat_of_nonneg (by omega), Int.mul_assoc, me]
  have ec : ((N - J : Nat) : Int) * ((n : Int) * t + 1) = (n : Int) * (t * ((N - J : Nat) : Int)) + ((N - J : Nat) : Int) := by
    rw [Int.mul_add, Int.mul_one, Int.mul_comm ((N - J : Nat) : Int) ((n : Int) * t), Int.mul_assoc]
  rw [eb, ec] at g
  omega
theorem near_hi (ok : v.Ok) (s0 : ms.sum = 0) (mn : Mean v ms palm t b) (n : Nat) : ∃ y, (n : Int) * t ≤ hx v ms palm y (n * b.toNat) - y := by
  apply Classical.byContradiction
  intro ne
  have all : ∀ y, hx v ms palm y (n * b.toNat) - y ≤ (n : Int) * t - 1 := fun y => Int.not_lt.mp fun z => ne ⟨y, by omega⟩
  have grow : ∀ (m : Nat) (y : Int), hx v ms palm y (n * b.toNat * m) ≤ y + (m : Int) * ((n : Int) * t - 1) := fun m => by
    induction m with
    | zero => intro y; show y ≤ y + ((0 : Nat) : Int) * _; rw [show ((0 : Nat) : Int) = 0 by rfl, Int.zero_mul]; omega
    | succ m ih =>
      intro y
      rw [Nat.mul_succ, hx_add s0]
      have h1 := ih y
      have h2 := all (hx v ms palm y (n * b.toNat * m))
      rw [show ((m + 1 : Nat) : Int) = (m : Int) + 1 by omega, Int.add_mul, Int.one_mul]
      omega
  obtain ⟨N, J, cy⟩ := cyc_ex (v := v) (ms := ms) (s := ((0 : Int), palm)) ok
  have me := mn.eq 0 N J cy
  have lt := cy.lt
  have many := cy.many ok 0 (n * b.toNat)
  rw [Nat.add_zero] at many
  obtain ⟨r, hr⟩ : ∃ r, (rp v ms (0, palm) N).1 - (rp v ms (0, palm) J).1 = r := ⟨_, rfl⟩
  rw [hr] at me many
  have many' : hx v ms palm 0 (J + (N - J) * (n * b.toNat)) = hx v ms palm 0 J + ((n * b.toNat : Nat) : Int) * r := many
  rw [hx_add s0] at many'
  have g := grow (N - J) (hx v ms palm 0 J)
  rw [Nat.mul_comm (n * b.toNat) (N - J), many'] at g
  have b0 := mn.b0
  have eb : ((n * b.toNat : Nat) : Int) * r = (n : Int) * (t * ((N - J : Nat) : Int)) := by
    rw [Int.natCast_mul, Int.toNat_of_nonneg (by omega), Int.mul_assoc, me]
  have ec : ((N - J : Nat) : Int) * ((n : Int) * t - 1) = (n : Int) * (t * ((N - J : Nat) : Int)) - ((N - J : Nat) : Int) := by
    rw [Int.mul_sub, Int.mul_one, Int.mul_comm ((N - J : Nat) : Int) ((n : Int) * t), Int.mul_assoc]
  rw [eb, ec] at g
  omega
/-- never a common pitch away from the mean -/
theorem near (ok : v.Ok) (cm : Com v L) (s0 : ms.sum = 0) (mn : Mean v ms palm t b) (n : Nat) (x : Int) : 0 - L < hx v ms palm x (n * b.toNat) - x - (n : Int) * t ∧ hx v ms palm x (n * b.toNat) - x - (n : Int) * t < L := by
  have L0 := cm.pos
  obtain ⟨y1, h1⟩ := near_lo ok s0 mn n
  obtain ⟨y2, h2⟩ := near_hi ok s0 mn n
  constructor
  · obtain ⟨j, r, e, r0, r1⟩ : ∃ j r : Int, y2 - x = r + L * j ∧ 0 ≤ r ∧ r < L := ⟨(y2 - x) / L, (y2 - x) % L, (Int.emod_add_mul_ediv _ _).symm, Int.emod_nonneg _ (by omega), Int.emod_lt_of_pos _ L0⟩
    have u := hx_up (ms := ms) (palm := palm) ok cm y2 (-j) (n * b.toNat)
    rw [Int.mul_neg] at u
    rcases Int.lt_or_eq_of_le r0 with z | z
    · have u2 := hx_up (ms := ms) (palm := palm) ok cm (y2 + -(L * j)) (-1) (n * b.toNat)
      have m := hx_mono (ms := ms) (palm := palm) ok (show y2 + -(L * j) + L * -1 ≤ x by omega) (n * b.toNat)
      omega
    · have ex : x = y2 + -(L * j) := by omega
      rw [ex]
      omega
  · obtain ⟨j, r, e, r0, r1⟩ : ∃ j r : Int, x - y1 = r + L * j ∧ 0 ≤ r ∧ r < L := ⟨(x - y1) / L, (x - y1) % L, (Int.emod_add_mul_ediv _ _).symm, Int.emod_nonneg _ (by omega), Int.emod_lt_of_pos _ L0⟩
    have u := hx_up (ms := ms) (palm := palm) ok cm y1 j (n * b.toNat)
    rcases Int.lt_or_eq_of_le r0 with z | z
    · have u2 := hx_up (ms := ms) (palm := palm) ok cm (y1 + L * j) 1 (n * b.toNat)
      have m := hx_mono (ms := ms) (palm := palm) ok (show x ≤ y1 + L * j + L * 1 by omega) (n * b.toNat)
      omega
    · have ex : x = y1 + L * j := by omega
      rw [ex]
      omega
theorem sub_len {α : Type} [DecidableEq α] : ∀ (l m : List α), l.Nodup → (∀ x ∈ l, x ∈ m) → l.length ≤ m.length
  | [], _, _, _ => Nat.zero_le _
  | a :: l, m, nd, h => by
    rw [List.nodup_cons] at nd
    have hm := h a List.mem_cons_self
    have := sub_len l (m.erase a) nd.2 fun x hx => (List.mem_erase_of_ne fun e => nd.1 (by rw [← e]; exact hx)).mpr (h x (List.mem_cons_of_mem _ hx))
    rw [List.length_erase_of_mem hm] at this
    have := List.length_pos_of_mem hm
    rw [List.length_cons]
    omega
theorem held_add (cm : Com v L) {x : Int} (k : Int) (h : held v (x, palm) = true) : held v (x + L * k, palm) = true := by
  have e1 : L = v.1.p * (L / v.1.p) := (Int.mul_ediv_cancel' (Int.dvd_of_emod_eq_zero cm.d1)).symm
  have e2 : L = v.2.p * (L / v.2.p) := (Int.mul_ediv_cancel' (Int.dvd_of_emod_eq_zero cm.d2)).symm
  exact held_up (v := v) (s := L * k) (a := L / v.1.p * k) (b := L / v.2.p * k) (by rw [← Int.mul_assoc, ← e1]) (by rw [← Int.mul_assoc, ← e2]) h
theorem held_mod (cm : Com v L) {x : Int} (h : held v (x, palm) = true) : held v (x % L, palm) = true := by
  have := held_add cm (-(x / L)) h
  rw [Int.mul_neg] at this
  have e := Int.emod_add_mul_ediv x L
  rw [show x + -(L * (x / L)) = x % L by omega] at this
  exact this
/-- a cycle visits no more places than there are held heights -/
theorem cyc_heldL (ok : v.Ok) (s0 : ms.sum = 0) {x : Int} (hx0 : held v (x, palm) = true) {N J : Nat} (cy : Cyc v ms (x, palm) N J) : N ≤ (heldL v palm).length := by
  obtain ⟨cm, _⟩ := com_lcmV ok
  have L0 := cm.pos
  have h := sub_len ((List.range N).map fun i => hx v ms palm x i % lcmV v) (heldL v palm) ?_ ?_
  · rw [List.length_map, List.length_range] at h
    exact h
  · refine List.nodup_iff_pairwise_ne.mpr (List.pairwise_map.mpr ?_)
    refine List.Pairwise.imp_of_mem ?_ (List.pairwise_lt_range (n := N))
    intro i k hi hk hlt e
    apply cy.inj i k hlt (List.mem_range.mp hk)
    rw [hx_eta s0, hx_eta s0]
    have p1 := cm.plc (hx v ms palm x i % lcmV v) palm (hx v ms palm x i / lcmV v)
    have p2 := cm.plc (hx v ms palm x k % lcmV v) palm (hx v ms palm x k / lcmV v)
    rw [Int.emod_add_mul_ediv] at p1 p2
    rw [← p1, ← p2, e]
  · intro y hy
    obtain ⟨i, hi, rfl⟩ := List.mem_map.mp hy
    have m1 := Int.emod_nonneg (hx v ms palm x i) (show lcmV v ≠ 0 by omega)
    have m2 := Int.emod_lt_of_pos (hx v ms palm x i) L0
    refine heldN_mem.mpr ⟨m1, by omega, held_mod cm ?_⟩
    rw [← hx_eta s0]
    exact rp_held ok ms hx0 i
/-- a stuck height: the mean is 0, and it stays -/
theorem stuck_stay (ok : v.Ok) (s0 : ms.sum = 0) (mn : Mean v ms palm t b) {x : Int} (h : x ∈ stuckL v palm ms) : t = 0 ∧ held v (x + lcmV v, palm) = true ∧ 0 ≤ x ∧ x < 576 ∧ ∀ k : Nat, rp v ms (x + lcmV v, palm) k = (x + lcmV v, palm) := by
  obtain ⟨cm, _⟩ := com_lcmV ok
  have L0 := cm.pos
  have L5 := cm.le
  obtain ⟨h1, h2⟩ := List.mem_filter.mp h
  obtain ⟨a0, a1, a2⟩ := heldN_mem.mp h1
  have sx : (mvs v (x, palm) ms).1 = x := of_decide_eq_true h2
  have e1 : mvs v (x, palm) ms = (x, palm) := by
    ext
    · exact sx
    · show (mvs v (x, palm) ms).2 = palm
      rw [mvs_hand, s0, Int.add_zero]
  have t0 : t = 0 := by
    have e2 : rp v ms (x, palm) 1 = (x, palm) := e1
    have := (mn.told ok (y := x) (k := 1) (by decide) (by rw [e2])).1
    rw [e2] at this
    have z : (x - x) * b = t * ((1 : Nat) : Int) := this
    rw [Int.sub_self, Int.zero_mul] at z
    omega
  have hd := held_add cm 1 a2
  rw [Int.mul_one] at hd
  have e3 : mvs v (x + lcmV v, palm) ms = (x + lcmV v, palm) := by
    have p := cm.plc x palm 1
    rw [Int.mul_one] at p
    rw [mvs_shift ok ms p, e1]
    ext
    · show x + (x + lcmV v - x) = _; omega
    · show palm + (palm - palm) = _; omega
  refine ⟨t0, hd, a0, by omega, fun k => ?_⟩
  induction k with
  | zero => rfl
  | succ k ih =>
    show mvs v (rp v ms (x + lcmV v, palm) k) ms = _
    rw [ih, e3]
end
theorem we_chainLL {c : Cn} {ds : DS} {pl : List D} {Φ : W → List D → Prop} {ta tb tc : TE} {a b c' : Int} (h1 : WE c ta ds pl fun w p => w = .d (.int a) ∧ p = pl) (h2 : WE c tb ds pl fun w p => w = .d (.int b) ∧ p = pl) (h3 : WE c tc ds pl fun w p => w = .d (.int c') ∧ p = pl)
    (h : Φ (.d (.bool (decide (a < b) && decide (b < c')))) pl) : WE c (tChain (rI0 fun i j => .bl (decide (i < j))) (rI0 fun i j => .bl (decide (i < j))) ta tb tc) ds pl Φ := fun G σ H hs Q q => by
  refine h1 G σ H hs _ ?_
  rintro v1 G1 H1 w1 p1 hs1 e1 f1 ⟨rfl, rfl⟩
  cases f1
  refine h2 G1 σ H1 hs1 _ ?_
  rintro v2 G2 H2 w2 p2 hs2 e2 f2 ⟨rfl, rfl⟩
  cases f2
  refine ⟨a, b, rfl, rfl, _, rfl, ?_⟩
  by_cases z : a < b
  · have z' : decide (a < b) = true := decide_eq_true z
    rw [z'] at h
    simp only [z', if_true]
    refine h3 G2 σ H2 hs2 _ ?_
    rintro v3 G3 H3 w3 p3 hs3 e3 f3 ⟨rfl, rfl⟩
    cases f3
    exact ⟨b, c', rfl, rfl, q _ G3 H3 (.d _) _ hs3 (e1.trans (e2.trans e3)) (R.bl _) h⟩
  · have z' : decide (a < b) = false := decide_eq_false z
    rw [z'] at h
    simp only [z']
    exact q _ G2 H2 (.d (.bool false)) _ hs2 (e1.trans e2) (R.bl _) h
end PD

/-! PD67: a device with more teeth; zip of two tuples -/
namespace PD
open PySem PySem.Spec PyProof.Rows L2 Evl
section
variable {c : Cn} {K : PySem.W.Frag} {ds : DS} {pl : List D} {Φ : W → List D → Prop} {tr : TA} {t : TS} {E : EE}
theorem ws_forZT {j1 j2 : Nat} (I : Nat → DS → List D → Prop) (xs ys : List D) (hl : ys.length ≤ xs.length) (h : WA c tr ds pl fun zs p1 => zs = [.tuple xs, .tuple ys] ∧ I 0 ds p1)
    (hs : ∀ (i : Nat) x y ds' pl', xs[i]? = some x → ys[i]? = some y → I i ds' pl' → WS c t ((ds'.set j1 (some (.d x))).set j2 (some (.d y))) pl' { nx := I (i + 1), ct := I (i + 1), bk := E.nx, rt := E.rt }) (hd : ∀ ds' pl', I ys.length ds' pl' → E.nx ds' pl') :
    WS c (tFor (RZ.iZipA K tr) (gTup K 2 (gCons (gName j1) (gCons (gName j2) gNil))) t) ds pl E := fun G σ H h0 D' f => h G σ H h0 _ fun vs G1 H1 zs p1 h1 e1 f1 ⟨ez, g1⟩ => by
  subst ez
  obtain ⟨v, u, rfl, r1, r2⟩ := ra2 f1
  cases r1 with
  | @tup a us1 _ a1 b1 =>
  cases r2 with
  | @tup b us2 _ a2 b2 =>
  refine ⟨a, b, us1, us2, rfl, .inr ⟨SqT.of (h1.sub _ _ a1), SqT.of (h1.sub _ _ a2), fun i m σ' H' => m = us2.length - i ∧ i ≤ us2.length ∧ ∃ G' ds' pl', HS c G' σ' H' ds' pl' ∧ Ex G1 G' ∧ I i ds' pl', ⟨us2.length, by simp, Nat.zero_le _, G1, ds, p1, h1, Ex.refl _, g1⟩, ?_⟩⟩
  rintro i m σ' H' ⟨rfl, hi, G', ds', pl', h2, e2, g2⟩
  have sq1 : SqT K H' a us1 := SqT.of (h2.sub _ _ (e2 _ _ a1))
  have sq2 : SqT K H' b us2 := SqT.of (h2.sub _ _ (e2 _ _ a2))
  by_cases hlt : i < us2.length
  · have hlt1 : i < us1.length := by rw [b1.len]; rw [b2.len] at hlt; omega
    refine .inr ⟨⟨us1, us2, us1[i], us2[i], sq1, sq2, by simp [hlt1], by simp [hlt]⟩, fun σ3 H3 => ∃ G3 ds3 pl3, HS c G3 σ3 H3 ds3 pl3 ∧ Ex G1 G3 ∧ I (i + 1) ds3 pl3, fun σ3 H3 q => ⟨us2.length - (i + 1), by omega, rfl, hlt, q⟩, ?_⟩
    rintro x H3 ⟨T, x1, x2, rfl, hT, rfl, y1, y2⟩
    obtain ⟨d1, hd1, hr1⟩ := b1.get' (y1 us1 sq1)
    obtain ⟨d2, hd2, hr2⟩ := b2.get' (y2 us2 sq2)
    have n := h2.none_of hT
    have e3 : Ex G' (upd G' T (.tup [x1, x2])) := Ex.new n.1
    refine ⟨T, _, rfl, SqT.of upd_same, rfl, _, _, rfl, _, _, rfl, rfl, ?_⟩
    have hN := ((h2.newD (o := .tup [x1, x2]) hT).set (i := j1) (w := .d d1) (R.up hr1 (e2.trans e3)) fun xs z => by cases z).set (i := j2) (w := .d d2) (R.up hr2 (e2.trans e3)) fun xs z => by cases z
    refine hs i d1 d2 ds' pl' hd1 hd2 g2 _ _ _ hN _ ⟨?_, ?_, ?_, ?_⟩
    · exact fun G4 σ4 H4 ds4 pl4 h4 e4 g4 => ⟨G4, ds4, pl4, h4, (e2.trans e3).trans e4, g4⟩
    · exact fun v G4 σ4 H4 ds4 w4 pl4 h4 e4 q4 g4 => f.rt v G4 σ4 H4 ds4 w4 pl4 h4 (e1.trans ((e2.trans e3).trans e4)) q4 g4
    · exact fun G4 σ4 H4 ds4 pl4 h4 e4 g4 => f.nx G4 σ4 H4 ds4 pl4 h4 (e1.trans ((e2.trans e3).trans e4)) g4
    · exact fun G4 σ4 H4 ds4 pl4 h4 e4 g4 => ⟨G4, ds4, pl4, h4, (e2.trans e3).trans e4, g4⟩
  · have ei : i = us2.length := by omega
    subst ei
    rw [b2.len] at g2
    exact .inl ⟨⟨us1, us2, sq1, sq2, .inr (Nat.le_refl _)⟩, f.nx G' σ' H' ds' pl' h2 (e1.trans e2) (hd _ _ g2)⟩

end
structure More (a b : Comb) : Prop where
  p : a.p = b.p
  sub : ∀ t ∈ a.ts, t ∈ b.ts
theorem More.refl (a : Comb) : More a a := ⟨rfl, fun t h => h⟩
theorem More.caught {a b : Comb} (m : More a b) {n : Int} (h : PD.caught a n = true) : PD.caught b n = true := by
  unfold PD.caught at h ⊢
  rw [← m.p]
  exact decide_eq_true (m.sub _ (of_decide_eq_true h))
theorem More.flo {a b : Comb} (m : More a b) (oa : a.Ok) (ob : b.Ok) (n : Int) : PD.flo a n ≤ PD.flo b n := by
  have sa := flo_spec oa n
  have sb := flo_spec ob n
  apply Int.not_lt.mp
  intro z
  have := sb.2.2 (PD.flo a n) z sa.1
  rw [m.caught sa.2.1] at this
  cases this
def MoreD (v w : Dv) : Prop := More v.1 w.1 ∧ More v.2 w.2
section
variable {v w : Dv} (ov : v.Ok) (ow : w.Ok) (m : MoreD v w)
include ov ow m
theorem mv_more {s t : Sv} (h1 : s.1 ≤ t.1) (h2 : s.2 = t.2) (x : Int) : (mv v s x).1 ≤ (mv w t x).1 ∧ (mv v s x).2 = (mv w t x).2 := by
  by_cases z : 0 < x
  · rw [mv_up z, mv_up z]
    have a := m.2.flo ov.2 ow.2 (s.1 - s.2)
    have b := flo_mono ow.2 (show s.1 - s.2 ≤ t.1 - t.2 by omega)
    constructor
    · show s.2 + x + max (s.1 - s.2 - x) (flo v.2 (s.1 - s.2)) ≤ t.2 + x + max (t.1 - t.2 - x) (flo w.2 (t.1 - t.2)); omega
    · show s.2 + x = t.2 + x; omega
  · rw [mv_down z, mv_down z]
    have a := m.1.flo ov.1 ow.1 s.1
    have b := flo_mono ow.1 h1
    constructor
    · show max (s.1 + x) (flo v.1 s.1) ≤ max (t.1 + x) (flo w.1 t.1); omega
    · show s.2 + x = t.2 + x; omega
theorem mvs_more : ∀ (ms : List Int) {s t : Sv}, s.1 ≤ t.1 → s.2 = t.2 → (mvs v s ms).1 ≤ (mvs w t ms).1 ∧ (mvs v s ms).2 = (mvs w t ms).2
  | [], _, _, h1, h2 => ⟨h1, h2⟩
  | x :: r, s, t, h1, h2 => by
    have h := mv_more ov ow m h1 h2 x
    exact mvs_more r h.1 h.2
theorem rp_more (ms : List Int) {s t : Sv} (h1 : s.1 ≤ t.1) (h2 : s.2 = t.2) : ∀ k : Nat, (rp v ms s k).1 ≤ (rp w ms t k).1 ∧ (rp v ms s k).2 = (rp w ms t k).2
  | 0 => ⟨h1, h2⟩
  | k + 1 => by
    have h := rp_more ms h1 h2 k
    exact mvs_more ov ow m ms h.1 h.2
omit ov ow in
theorem held_more {s : Sv} (h : held v s = true) : held w s = true := by
  unfold held at h ⊢
  rcases Bool.or_eq_true _ _ ▸ h with z | z
  · rw [m.1.caught z]; rfl
  · rw [m.2.caught z, Bool.or_true]
/-- more teeth, no lesser mean -/
theorem mean_moreT {ms : List Int} {palm t b t' b' : Int} (s0 : ms.sum = 0) (mn : Mean v ms palm t b) (mn' : Mean w ms palm t' b') : t * b' ≤ t' * b := by
  obtain ⟨cm, _⟩ := com_lcmV ov
  obtain ⟨cw, _⟩ := com_lcmV ow
  have el : lcmV w = lcmV v := by unfold lcmV; rw [m.1.p, m.2.p]
  rw [el] at cw
  have L0 := cm.pos
  have b0 := mn.b0
  have b0' := mn'.b0
  apply Int.not_lt.mp
  intro z
  obtain ⟨n, hn⟩ : ∃ n : Nat, (n : Int) = 2 * lcmV v + 1 := ⟨(2 * lcmV v + 1).toNat, by omega⟩
  have h1 := (near ov cm s0 mn (n * b'.toNat) 0).1
  have h2 := (near ow cw s0 mn' (n * b.toNat) 0).2
  have h3 := (rp_more ov ow m ms (s := (0, palm)) (t := (0, palm)) (Int.le_refl _) rfl (n * b'.toNat * b.toNat)).1
  have e : n * b.toNat * b'.toNat = n * b'.toNat * b.toNat := by rw [Nat.mul_assoc, Nat.mul_comm b.toNat, ← Nat.mul_assoc]
  rw [e] at h2
  have h3' : hx v ms palm 0 (n * b'.toNat * b.toNat) ≤ hx w ms palm 0 (n * b'.toNat * b.toNat) := h3
  have e1 : ((n * b'.toNat : Nat) : Int) * t = (n : Int) * (t * b') := by rw [Int.natCast_mul, Int.toNat_of_nonneg (by omega), Int.mul_assoc, Int.mul_comm b']
  have e2 : ((n * b.toNat : Nat) : Int) * t' = (n : Int) * (t' * b) := by rw [Int.natCast_mul, Int.toNat_of_nonneg (by omega), Int.mul_assoc, Int.mul_comm b]
  rw [e1] at h1
  rw [e2] at h2
  have h4 : (n : Int) * (t' * b + 1) ≤ (n : Int) * (t * b') := Int.mul_le_mul_of_nonneg_left (by omega) (by omega)
  rw [Int.mul_add, Int.mul_one] at h4
  omega
theorem climb_more {arm x y : Int} (x1 : 1 ≤ x) (xa : ∀ t b, Mean v [x, -x] arm t b → 0 < t) (yb : ∀ z, 1 ≤ z → z < y → ∀ t b, Mean w [z, -z] arm t b → t = 0) : y ≤ x := by
  apply Int.not_lt.mp
  intro z
  have mv' := mOf_mean ov arm x
  have mw := mOf_mean ow arm x
  have a := xa _ _ mv'
  have b := yb x x1 z _ _ mw
  have s0 : ([x, -x] : List Int).sum = 0 := by simp; omega
  have h := mean_moreT ov ow m s0 mv' mw
  rw [b, Int.zero_mul] at h
  have := Int.mul_pos a mw.b0
  omega
theorem reach_more {h h' : Int} (hh : h ≤ h') (hand goal : Nat) : reachH v h hand goal ≤ reachH w h' hand goal := by
  have a1 := m.1.flo ov.1 ow.1 h
  have a2 := flo_mono ow.1 hh
  have b1 := m.2.flo ov.2 ow.2 (h - (hand : Int))
  have b2 := flo_mono ow.2 (show h - (hand : Int) ≤ h' - (hand : Int) by omega)
  unfold reachH slk
  split <;> omega
end
/-! ### best heights -/
theorem updG_ne {b : List OI} {g g2 : Nat} {r : Int} (h : g ≠ g2) : (updG b g r)[g2]? = b[g2]? := by
  unfold updG
  split
  · split
    · rw [List.getElem?_set_ne h]
    · rfl
  · rw [List.getElem?_set_ne h]
  · rfl
theorem updG_at {b : List OI} {g : Nat} {r : Int} (h : g < b.length) : ∃ x, (updG b g r)[g]? = some (some x) ∧ (x = r ∨ b[g]? = some (some x)) ∧ r ≤ x ∧ ∀ y, b[g]? = some (some y) → y ≤ x := by
  unfold updG
  cases e : b[g]? with
  | none => rw [List.getElem?_eq_none_iff] at e; omega
  | some o =>
    cases o with
    | none => exact ⟨r, by show (b.set g (some r))[g]? = _; rw [List.getElem?_set_self h], .inl rfl, Int.le_refl _, fun y hy => by cases hy⟩
    | some x =>
      by_cases q : x < r
      · exact ⟨r, by show (if x < r then b.set g (some r) else b)[g]? = _; rw [if_pos q, List.getElem?_set_self h], .inl rfl, Int.le_refl _, fun y hy => by cases hy; omega⟩
      · exact ⟨x, by show (if x < r then b.set g (some r) else b)[g]? = _; rw [if_neg q]; exact e, .inr rfl, by omega, fun y hy => by cases hy; exact Int.le_refl _⟩
theorem Ge.upd2 {b b' : List OI} (G : Ge b' b) (hl : b.length = b'.length) (g : Nat) {r r' : Int} (hr : r ≤ r') : Ge (PD.updG b' g r') (PD.updG b g r) := fun g2 h e => by
  by_cases z : g = g2
  · subst z
    have hlt : g < b.length := by
      have := (List.getElem?_eq_some_iff.mp e).1
      rw [updG_len] at this
      exact this
    obtain ⟨x, e1, e2, e3, e4⟩ := updG_at (r := r) hlt
    obtain ⟨x', f1, f2, f3, f4⟩ := updG_at (r := r') (show g < b'.length by omega)
    rw [e1] at e
    cases e
    refine ⟨x', f1, ?_⟩
    rcases e2 with q | q
    · omega
    · obtain ⟨y, y1, y2⟩ := G g _ q
      have := f4 y y1
      omega
  · rw [updG_ne z] at e ⊢
    exact G g2 h e
section
variable {v w : Dv} (ov : v.Ok) (ow : w.Ok) (m : MoreD v w)
include ov ow m
theorem Ge.inner2 {b b' : List OI} (G : Ge b' b) (hl : b.length = b'.length) (hand : Nat) {h h' : Int} (hh : h ≤ h') : ∀ n : Nat, Ge (PD.innerF w b' hand h' n) (PD.innerF v b hand h n)
  | 0 => G
  | n + 1 => by
    rw [innerF_succ, innerF_succ]
    exact (Ge.inner2 G hl hand hh n).upd2 (by rw [innerF_len, innerF_len, hl]) _ (reach_more ov ow m hh hand n)
theorem Ge.turn2 {tops tops' b b' : List OI} (T : Ge tops' tops) (tl : tops.length = tops'.length) (G : Ge b' b) (hl : b.length = b'.length) (hd : Nat) : Ge (PD.turnF w tops' b' hd) (PD.turnF v tops b hd) := by
  cases e : tops[hd]? with
  | some o =>
    cases o with
    | some h =>
      obtain ⟨h', e', hh⟩ := T hd h e
      have x1 : PD.turnF v tops b hd = PD.innerF v b hd h tops.length := by unfold PD.turnF; rw [e]
      have x2 : PD.turnF w tops' b' hd = PD.innerF w b' hd h' tops'.length := by unfold PD.turnF; rw [e']
      rw [x1, x2, tl]
      exact Ge.inner2 ov ow m G hl hd hh _
    | none =>
      have x1 : PD.turnF v tops b hd = b := by unfold PD.turnF; rw [e]
      rw [x1]
      unfold PD.turnF
      split
      · exact G.innerF w _ _ _
      · exact G
  | none =>
    have x1 : PD.turnF v tops b hd = b := by unfold PD.turnF; rw [e]
    rw [x1]
    unfold PD.turnF
    split
    · exact G.innerF w _ _ _
    · exact G
theorem Ge.more2 {tops tops' : List OI} (T : Ge tops' tops) (tl : tops.length = tops'.length) : ∀ n : Nat, Ge (PD.moreF w tops' n) (PD.moreF v tops n)
  | 0 => T
  | n + 1 => by
    rw [moreF_succ, moreF_succ]
    exact Ge.turn2 ov ow m T tl (Ge.more2 T tl n) (by rw [moreF_len, moreF_len, tl]) n
theorem Ge.it2 (tops : List OI) : ∀ n : Nat, Ge (PD.itT w tops n) (PD.itT v tops n)
  | 0 => Ge.refl tops
  | n + 1 => by
    have h := Ge.more2 ov ow m (Ge.it2 tops n) (by rw [itT_len, itT_len]) (PD.itT v tops n).length
    have e : (PD.itT v tops n).length = (PD.itT w tops n).length := by rw [itT_len, itT_len]
    show Ge (PD.moreF w (PD.itT w tops n) (PD.itT w tops n).length) _
    rw [← e]
    exact h
end
theorem max_more {b b' : List OI} (G : Ge b' b) {x y : Int} (hx : x ∈ b.filterMap id) (hy : ∀ z ∈ b'.filterMap id, z ≤ y) : x ≤ y := by
  obtain ⟨o, h1, h2⟩ := List.mem_filterMap.mp hx
  have h2' : o = some x := h2
  subst h2'
  obtain ⟨g, hg⟩ := List.mem_iff_getElem?.mp h1
  obtain ⟨x', e1, e2⟩ := G g x hg
  have := hy x' (List.mem_filterMap.mpr ⟨some x', List.mem_of_getElem? e1, rfl⟩)
  omega
/-! ### counts -/
theorem filt_succ {r : Int} : ∀ {l : List Int}, l.Pairwise (· < ·) → ((l.filter fun t => decide (t < r + 1)).length : Int) = ((l.filter fun t => decide (t < r)).length : Int) + if decide (r ∈ l) = true then 1 else 0
  | [], _ => rfl
  | a :: l, h => by
    rw [List.pairwise_cons] at h
    have ih := filt_succ (r := r) h.2
    rcases Int.lt_trichotomy a r with z | z | z
    · rw [List.filter_cons_of_pos (by exact decide_eq_true (show a < r + 1 by omega)), List.filter_cons_of_pos (by exact decide_eq_true z), List.length_cons, List.length_cons]
      have e : decide (r ∈ a :: l) = decide (r ∈ l) := decide_eq_decide.mpr ⟨fun q => by rcases List.mem_cons.mp q with k | k; omega; exact k, fun q => List.mem_cons_of_mem _ q⟩
      rw [e]
      omega
    · subst z
      have n : ∀ t ∈ l, ¬ t < a + 1 := fun t ht => by have := h.1 t ht; omega
      have n2 : ∀ t ∈ l, ¬ t < a := fun t ht => by have := h.1 t ht; omega
      rw [List.filter_cons_of_pos (by exact decide_eq_true (show a < a + 1 by omega)), List.filter_cons_of_neg (by simp), List.length_cons]
      rw [List.filter_eq_nil_iff.mpr fun t ht => by simpa using n t ht, List.filter_eq_nil_iff.mpr fun t ht => by simpa using n2 t ht]
      rw [if_pos (by simp)]
      rfl
    · have n : ∀ t ∈ l, ¬ t < r + 1 := fun t ht => by have := h.1 t ht; omega
      have n2 : ∀ t ∈ l, ¬ t < r := fun t ht => by have := h.1 t ht; omega
      have n3 : r ∉ a :: l := fun q => by
        rcases List.mem_cons.mp q with k | k
        · omega
        · have := h.1 r k; omega
      rw [List.filter_cons_of_neg (by simp; omega), List.filter_cons_of_neg (by simp; omega), List.filter_eq_nil_iff.mpr fun t ht => by simpa using n t ht, List.filter_eq_nil_iff.mpr fun t ht => by simpa using n2 t ht, if_neg (by simpa using n3)]
      rfl
def cbN (c : Comb) (n : Int) : Int := n / c.p * (c.ts.length : Int) + ((c.ts.filter fun t => decide (t < n % c.p)).length : Int)
theorem cb_succ {c : Comb} (ok : c.Ok) (n : Int) : cbN c (n + 1) = cbN c n + if caught c n = true then 1 else 0 := by
  have p1 := ok.p1
  have r0 := Int.emod_nonneg n (show c.p ≠ 0 by omega)
  have r1 := Int.emod_lt_of_pos n (show 0 < c.p by omega)
  have ed := Int.emod_add_mul_ediv n c.p
  have fs := filt_succ (r := n % c.p) ok.up
  unfold cbN caught
  by_cases z : n % c.p + 1 < c.p
  · have e1 : (n + 1) % c.p = n % c.p + 1 := by
      rw [show n + 1 = (n % c.p + 1) + c.p * (n / c.p) by omega, Int.add_mul_emod_self_left, Int.emod_eq_of_lt (by omega) z]
    have e2 : (n + 1) / c.p = n / c.p := by
      rw [show n + 1 = (n % c.p + 1) + c.p * (n / c.p) by omega, Int.add_mul_ediv_left _ _ (by omega), Int.ediv_eq_zero_of_lt (by omega) z, Int.zero_add]
    rw [e1, e2, fs]
    omega
  · have ep : n % c.p + 1 = c.p := by omega
    have e1 : (n + 1) % c.p = 0 := by
      rw [show n + 1 = 0 + c.p * (n / c.p + 1) by rw [Int.mul_add, Int.mul_one]; omega, Int.add_mul_emod_self_left, Int.zero_emod]
    have e2 : (n + 1) / c.p = n / c.p + 1 := by
      rw [show n + 1 = 0 + c.p * (n / c.p + 1) by rw [Int.mul_add, Int.mul_one]; omega, Int.add_mul_ediv_left _ _ (by omega), Int.zero_ediv, Int.zero_add]
    have all : (c.ts.filter fun t => decide (t < n % c.p + 1)) = c.ts := List.filter_eq_self.mpr fun t ht => decide_eq_true (by have := ok.high t ht; omega)
    have none : (c.ts.filter fun t => decide (t < 0)) = [] := List.filter_eq_nil_iff.mpr fun t ht => by have := ok.low t ht; simp; omega
    rw [all] at fs
    rw [e1, e2, none, Int.add_mul, Int.one_mul, fs]
    show _ + ((0 : Nat) : Int) = _
    omega
theorem cb_more {a b : Comb} (oa : a.Ok) (ob : b.Ok) (m : More a b) (x : Int) : ∀ k : Nat, cbN a (x + k) - cbN a x ≤ cbN b (x + k) - cbN b x
  | 0 => by rw [show x + ((0 : Nat) : Int) = x by omega]; omega
  | k + 1 => by
    have ih := cb_more oa ob m x k
    rw [show x + ((k + 1 : Nat) : Int) = x + (k : Int) + 1 by omega, cb_succ oa, cb_succ ob]
    by_cases z : caught a (x + (k : Int)) = true
    · rw [if_pos z, if_pos (m.caught z)]; omega
    · rw [if_neg z]
      split <;> omega
end PD

/-! PD68: gaps that are there; combs of all teeth -/
namespace PD
open PySem PySem.Spec PyProof.Rows L2 Evl
theorem asc_lt {l : List Int} (up : l.Pairwise (· < ·)) {i k : Nat} {a b : Int} (h1 : l[i]? = some a) (h2 : l[k]? = some b) (hik : i < k) : a < b := by
  obtain ⟨x1, e1⟩ := List.getElem?_eq_some_iff.mp h1
  obtain ⟨x2, e2⟩ := List.getElem?_eq_some_iff.mp h2
  have := List.pairwise_iff_getElem.mp up i k x1 x2 hik
  rw [e1, e2] at this
  exact this
theorem gap_att {c : Comb} (ok : c.Ok) {t0 : Int} {r0 : List Int} (et : c.ts = t0 :: r0) {i : Nat} {t f : Int} (h1 : c.ts[i]? = some t) (h2 : (c.ts.tail ++ [t0 + c.p])[i]? = some f) : slk c (f - 1) = f - 1 - t := by
  have p1 := ok.p1
  have hlt := (List.getElem?_eq_some_iff.mp h1).1
  have tm := List.mem_of_getElem? h1
  have tl := ok.low t tm
  have th := ok.high t tm
  have e0 : c.ts[0]? = some t0 := by rw [et]; rfl
  have ct : caught c t = true := by
    unfold caught
    rw [Int.emod_eq_of_lt tl th]
    exact decide_eq_true tm
  have key : IsBelow c (f - 1) t := by
    by_cases z : i + 1 < c.ts.length
    · have e : c.ts[i + 1]? = some f := by
        rw [List.getElem?_append_left (by rw [List.length_tail]; omega), ← List.drop_one, List.getElem?_drop, Nat.add_comm] at h2
        exact h2
      have fl := asc_lt ok.up h1 e (Nat.lt_succ_self i)
      have fh := ok.high f (List.mem_of_getElem? e)
      refine ⟨by omega, ct, fun y y1 y2 => decide_eq_false fun hy => ?_⟩
      rw [Int.emod_eq_of_lt (by omega) (by omega)] at hy
      obtain ⟨k, hk⟩ := List.mem_iff_getElem?.mp hy
      rcases Nat.lt_trichotomy k i with q | q | q
      · have := asc_lt ok.up hk h1 q; omega
      · subst q; rw [h1] at hk; cases hk; omega
      · rcases Nat.lt_or_ge (i + 1) k with q2 | q2
        · have := asc_lt ok.up e hk q2; omega
        · have : k = i + 1 := by omega
          subst this; rw [e] at hk; cases hk; omega
    · have el : i = c.ts.length - 1 := by omega
      have e : f = t0 + c.p := by
        rw [List.getElem?_append_right (by rw [List.length_tail]; omega), List.length_tail, show i - (c.ts.length - 1) = 0 by omega] at h2
        cases h2
        rfl
      have tz : t0 ≤ t := by
        rcases Nat.eq_zero_or_pos i with q | q
        · subst q; rw [e0] at h1; cases h1; exact Int.le_refl _
        · have := asc_lt ok.up e0 h1 q; omega
      have t00 := ok.low t0 (by rw [et]; exact List.mem_cons_self)
      refine ⟨by omega, ct, fun y y1 y2 => decide_eq_false fun hy => ?_⟩
      by_cases yp : y < c.p
      · rw [Int.emod_eq_of_lt (by omega) yp] at hy
        obtain ⟨k, hk⟩ := List.mem_iff_getElem?.mp hy
        have kl := (List.getElem?_eq_some_iff.mp hk).1
        rcases Nat.lt_or_ge k i with q | q
        · have := asc_lt ok.up hk h1 q; omega
        · have : k = i := by omega
          subst this; rw [h1] at hk; cases hk; omega
      · rw [show y = (y - c.p) + c.p * 1 by omega, Int.add_mul_emod_self_left, Int.emod_eq_of_lt (by omega) (by omega)] at hy
        obtain ⟨k, hk⟩ := List.mem_iff_getElem?.mp hy
        rcases Nat.eq_zero_or_pos k with q | q
        · subst q; rw [e0] at hk; cases hk; omega
        · have := asc_lt ok.up e0 hk q; omega
  have := (flo_spec ok (f - 1)).uniq key
  unfold slk
  rw [this]
theorem gap_more {a b : Comb} (oa : a.Ok) (ob : b.Ok) (m : More a b) {g g' : Int} (h : ∀ y ∈ sl a, y ≤ g - 1) {n : Int} (h' : slk b n = g' - 1) : g' ≤ g := by
  have f := m.flo oa ob n
  have := h _ (slk_in oa n)
  unfold slk at this h'
  omega
def allC (p : Int) : Comb := ⟨p, (List.range p.toNat).map fun (i : Nat) => (i : Int)⟩
theorem allC_ok {p : Int} (h1 : 1 ≤ p) (h2 : p ≤ 24) : (allC p).Ok := by
  refine ⟨h1, h2, fun e => ?_, fun t ht => ?_, fun t ht => ?_, range_up p.toNat⟩
  · have := congrArg List.length e
    rw [show (allC p).ts.length = p.toNat by show ((List.range p.toNat).map _).length = _; rw [List.length_map, List.length_range]] at this
    have : p.toNat = 0 := this
    omega
  · exact (range_in ht).1
  · have := (range_in ht).2
    show t < p
    omega
theorem allC_caught {p : Int} (h1 : 1 ≤ p) (n : Int) : caught (allC p) n = true := by
  unfold caught
  have a := Int.emod_nonneg n (show p ≠ 0 by omega)
  have b := Int.emod_lt_of_pos n (show 0 < p by omega)
  exact decide_eq_true (List.mem_map.mpr ⟨(n % p).toNat, List.mem_range.mpr (by omega), by show (((n % p).toNat : Nat) : Int) = n % p; omega⟩)
def allD (v : Dv) : Dv := (allC v.1.p, allC v.2.p)
theorem allD_ok {v : Dv} (ok : v.Ok) : (allD v).Ok := ⟨allC_ok ok.1.p1 ok.1.p24, allC_ok ok.2.p1 ok.2.p24⟩
theorem allD_held {v : Dv} (ok : v.Ok) (s : Sv) : held (allD v) s = true := by
  unfold held
  rw [show caught (allD v).1 s.1 = true from allC_caught ok.1.p1 _]
  rfl
theorem allD_mv {v : Dv} (ok : v.Ok) (s : Sv) (m : Int) : (mv (allD v) s m).1 = s.1 + max 0 m := by
  have a := flo_of (allD_ok ok).1 (allC_caught ok.1.p1 s.1)
  have b := flo_of (allD_ok ok).2 (allC_caught ok.2.p1 (s.1 - s.2))
  by_cases z : 0 < m
  · rw [mv_up z]
    show s.2 + m + max (s.1 - s.2 - m) (flo (allD v).2 (s.1 - s.2)) = _
    rw [show flo (allD v).2 (s.1 - s.2) = s.1 - s.2 from b]
    omega
  · rw [mv_down z]
    show max (s.1 + m) (flo (allD v).1 s.1) = _
    rw [show flo (allD v).1 s.1 = s.1 from a]
    omega
end PD

/-! PD69: [.. for i in range(a, b, s) for y in ys] -/
namespace PD
open PySem PySem.Spec PyProof.Rows L2 Evl
section
variable {c : Cn} {K : PySem.W.Frag} {ds : DS} {pl : List D} {Φ : W → List D → Prop} {te : TE} {tr : TA}
theorem we_lc2R3 {j1 j2 m0 : Nat} (J : Nat → Nat → List D → List D → Prop) (lo st : Int) (N : Nat) (ys : List D) (no : Nod ds) (hm : ds[m0]? = some (some (.d (.list ys)))) (hm1 : m0 ∉ [j1, j2])
    (h : WA c tr ds pl fun zs p1 => ∃ hi, zs = [.int lo, .int hi, .int st] ∧ RgC lo hi st N ∧ J 0 0 [] p1)
    (user : ∀ (i k : Nat) y acc pl', i < N → ys[k]? = some y → J i k acc pl' → ∀ pin, WE { c with pin := pin } te ((wipeD ((wipeD ds [j1, j2]).set j1 (some (.d (.int (lo + (i : Nat) * st))))) [j2]).set j2 (some (.d y))) pl' (isD fun z p3 => acc.length < sizeLine ∧ J i (k + 1) (acc ++ [z]) p3))
    (next : ∀ i acc pl', J i ys.length acc pl' → J (i + 1) 0 acc pl')
    (hq : ∀ acc pl', J N 0 acc pl' → Φ (.d (.list acc)) pl') :
    WE c (tLc2 (iRng3 tr) (gName j1) tYes (iList K (tVar m0)) (gName j2) tYes te [j1, j2] [j2]) ds pl Φ := fun G σ H h0 Q q => h G σ H h0 _ fun vs G1 H1 zs p1 h1 e1 f1 ⟨hi, ez, rg, g1⟩ => by
  subst ez
  cases f1 with
  | cons r1 f1 =>
  cases f1 with
  | cons r2 f1 =>
  cases f1 with
  | cons r3 f1 =>
  cases f1
  cases r1
  cases r2
  cases r3
  refine ⟨lo, hi, st, N, rfl, rg, fun Dl hD => ?_⟩
  have f := df_new h1 hD
  refine ⟨fun i m H' => m = N - i ∧ i ≤ N ∧ PvC c σ ds G1 Dl (fun i => J i 0) i H', ⟨N, by simp, Nat.zero_le _, pv_start (fun i => J i 0) h1 hD g1⟩, ?_⟩
  rintro i m H' ⟨rfl, hi', p⟩
  obtain ⟨G', pl', acc, us, h2, e2, hD2, ra, gD, hJ⟩ := id p
  by_cases hlt : i < N
  · refine .inr ⟨hlt, PvC c σ ds G1 Dl (fun i => J i 0) (i + 1), fun H3 q => ⟨N - (i + 1), by omega, rfl, hlt, q⟩, ?_⟩
    rintro x H3 ⟨eH, rfl⟩
    subst eH
    have mem : ∀ w ∈ [j1, j2], w ∈ [j1, j2] := fun w hw => hw
    refine ⟨?_, ?_⟩
    · rw [wipe_in (by simp), wipe_sub mem]
    unfold tYes
    dsimp only
    rw [if_pos rfl]
    obtain ⟨w, w1, w2⟩ := h2.slots m0 _ hm
    have w2' : R _ w (.list ys) := w2
    cases w2' with
    | @lst a2 us2 _ c1 d1 =>
    refine ⟨.ref a2, ?_, a2, rfl, ⟨us2, SqL.of (h2.sub _ _ c1)⟩, ?_⟩
    · have ne1 : j1 ≠ m0 := fun e => hm1 (e ▸ by simp)
      rw [List.getElem?_set_ne ne1, wipe_ne hm1]
      exact w1
    refine ⟨fun k m H'' => m = us2.length - k ∧ k ≤ us2.length ∧ PvC c σ ds G' Dl (J i) k H'', ⟨us2.length, by simp, Nat.zero_le _, _, pl', acc, us, h2, Ex.refl _, hD2, ra, gD, hJ⟩, ?_⟩
    rintro k m H'' ⟨rfl, hk, p2⟩
    obtain ⟨G5, pl5, acc5, us5, h5, e5, hD5, ra5, gD5, hJ5⟩ := id p2
    have sq2 : SqL K H'' a2 us2 := SqL.of (h5.sub _ _ (e5 _ _ c1))
    by_cases hlt2 : k < us2.length
    · refine .inr ⟨⟨us2, us2[k], sq2, by simp [hlt2]⟩, PvC c σ ds G' Dl (J i) (k + 1), fun H3 q => ⟨us2.length - (k + 1), by omega, rfl, hlt2, q⟩, ?_⟩
      rintro y H6 ⟨eH, y3⟩
      subst eH
      obtain ⟨dy, hdy, hry⟩ := d1.get' (y3 us2 sq2)
      refine ⟨wipe_set _ j2 y, ?_⟩
      have hw0 := (h5.wipe [j1, j2]).set (i := j1) (w := .d (.int (lo + (i : Nat) * st))) (R.int _) fun xs z => by cases z
      have hw := (hw0.wipe [j2]).set (i := j2) (w := .d dy) (R.up hry e5) fun xs z => by cases z
      have nod := (((no.wipe [j1, j2]).set j1 (.int (lo + (i : Nat) * st))).wipe [j2]).set j2 dy
      exact lc_turnG (tt := tYes) (J i) f (nod.df f) (fun i' xs' q => absurd q (no i' xs')) h5 hw e5 (Ex.refl _) hD5 gD5 ra5 (fun pin => wt_yes (iteV rfl (user i k dy acc5 pl5 hlt hdy hJ5 pin))) hJ5
    · have ek : k = us2.length := by omega
      subst ek
      have hJ6 : J i ys.length acc5 pl5 := by rw [← d1.len]; exact hJ5
      exact .inl ⟨⟨us2, sq2, Nat.le_refl _⟩, G5, pl5, acc5, us5, h5, e2.trans e5, hD5, ra5, gD5, next i acc5 pl5 hJ6⟩
  · have ei : i = N := by omega
    subst ei
    exact .inl ⟨Nat.le_refl _, pv_end f p hq fun v G' H' w pl' h2 e2 f2 g2 => q v G' H' w pl' h2 (e1.trans e2) f2 g2⟩
end
end PD

/-! PD70: combs of the least pitch -/
namespace PD
open PySem PySem.Spec PyProof.Rows L2 Evl
theorem rgc_all : ∀ p : Fin 25, ∀ q : Fin 25, 1 ≤ q.val → RgC 0 (p.val : Int) (q.val : Int) ((p.val + q.val - 1) / q.val) := by
  unfold RgC
  decide +kernel
theorem rgc {p q : Int} (p0 : 0 ≤ p) (p24 : p ≤ 24) (q1 : 1 ≤ q) (q24 : q ≤ 24) : RgC 0 p q ((p.toNat + q.toNat - 1) / q.toNat) := by
  have h := rgc_all ⟨p.toNat, by omega⟩ ⟨q.toNat, by omega⟩ (by show 1 ≤ q.toNat; omega)
  rw [show ((p.toNat : Nat) : Int) = p by omega, show ((q.toNat : Nat) : Int) = q by omega] at h
  exact h
def under (ts : List Int) (part : Int) : List Int := ts.filter fun t => decide (t < part)
def repT (ts : List Int) (part : Int) (N : Nat) : List Int := (List.range N).flatMap fun (k : Nat) => (under ts part).map fun t => (k : Int) * part + t
theorem repT_mem {ts : List Int} {part : Int} {N : Nat} {x : Int} : x ∈ repT ts part N ↔ ∃ k : Nat, k < N ∧ ∃ t, t ∈ ts ∧ t < part ∧ x = (k : Int) * part + t := by
  unfold repT under
  rw [List.mem_flatMap]
  constructor
  · rintro ⟨k, hk, h⟩
    obtain ⟨t, ht, rfl⟩ := List.mem_map.mp h
    obtain ⟨h1, h2⟩ := List.mem_filter.mp ht
    exact ⟨k, List.mem_range.mp hk, t, h1, of_decide_eq_true h2, rfl⟩
  · rintro ⟨k, hk, t, h1, h2, rfl⟩
    exact ⟨k, List.mem_range.mpr hk, List.mem_map.mpr ⟨t, List.mem_filter.mpr ⟨h1, decide_eq_true h2⟩, rfl⟩⟩
theorem repT_succ (ts : List Int) (part : Int) (N : Nat) : repT ts part (N + 1) = repT ts part N ++ (under ts part).map fun t => (N : Int) * part + t := by
  unfold repT
  rw [List.range_succ, List.flatMap_append]
  simp
theorem asc_ext : ∀ {l m : List Int}, l.Pairwise (· < ·) → m.Pairwise (· < ·) → (∀ x, x ∈ l ↔ x ∈ m) → l = m
  | [], [], _, _, _ => rfl
  | [], b :: m, _, _, h => nomatch (h b).mpr List.mem_cons_self
  | a :: l, [], _, _, h => nomatch (h a).mp List.mem_cons_self
  | a :: l, b :: m, h1, h2, h => by
    rw [List.pairwise_cons] at h1 h2
    have ab : a = b := by
      rcases List.mem_cons.mp ((h a).mp List.mem_cons_self) with e | e
      · exact e
      · rcases List.mem_cons.mp ((h b).mpr List.mem_cons_self) with e2 | e2
        · exact e2.symm
        · have := h1.1 b e2
          have := h2.1 a e
          omega
    subst ab
    rw [asc_ext h1.2 h2.2 fun x => ⟨fun hx => ?_, fun hx => ?_⟩]
    · rcases List.mem_cons.mp ((h x).mp (List.mem_cons_of_mem _ hx)) with e | e
      · have := h1.1 x hx; omega
      · exact e
    · rcases List.mem_cons.mp ((h x).mpr (List.mem_cons_of_mem _ hx)) with e | e
      · have := h2.1 x hx; omega
      · exact e
/-- a part of the pitch from which the teeth come again -/
def Per (c : Comb) (q : Int) : Prop := ∀ n, caught c (n + q) = caught c n
theorem Per.mul {c : Comb} {q : Int} (h : Per c q) (n : Int) : ∀ k : Nat, caught c (n + q * (k : Int)) = caught c n
  | 0 => by rw [show q * ((0 : Nat) : Int) = 0 by rw [show ((0 : Nat) : Int) = 0 by rfl, Int.mul_zero], Int.add_zero]
  | k + 1 => by
    rw [show n + q * ((k + 1 : Nat) : Int) = n + q * (k : Int) + q by rw [show ((k + 1 : Nat) : Int) = (k : Int) + 1 by omega, Int.mul_add, Int.mul_one]; omega, h, h.mul n k]
theorem Per.all {c : Comb} {q : Int} (h : Per c q) (n k : Int) : caught c (n + q * k) = caught c n := by
  rcases Int.le_total 0 k with z | z
  · obtain ⟨m, rfl⟩ := Int.eq_ofNat_of_zero_le z
    exact h.mul n m
  · obtain ⟨m, hm⟩ := Int.eq_ofNat_of_zero_le (show 0 ≤ -k by omega)
    have := h.mul (n + q * k) m
    rw [← hm, Int.mul_neg, show n + q * k + -(q * k) = n by omega] at this
    exact this.symm
theorem caught_mod {c : Comb} (n : Int) : caught c (n % c.p) = caught c n := by
  unfold caught
  rw [Int.emod_emod_of_dvd n (Int.dvd_refl c.p)]
theorem caught_in {c : Comb} (ok : c.Ok) {n : Int} (h0 : 0 ≤ n) (h1 : n < c.p) : caught c n = true ↔ n ∈ c.ts := by
  unfold caught
  rw [Int.emod_eq_of_lt h0 h1]
  exact decide_eq_true_iff
/-- teeth that are those below a part, again and again -/
theorem rep_per {c : Comb} (ok : c.Ok) {q : Int} (q1 : 1 ≤ q) (qp : q < c.p) (qd : c.p % q = 0) {N : Nat} (hN : (N : Int) * q = c.p) : repT c.ts q N = c.ts ↔ Per c q := by
  have p1 := ok.p1
  constructor
  · intro e n
    have key : ∀ x, caught c x = true ↔ ∃ t, t ∈ c.ts ∧ t < q ∧ x % q = t := fun x => by
      have r0 := Int.emod_nonneg x (show c.p ≠ 0 by omega)
      have r1 := Int.emod_lt_of_pos x (show 0 < c.p by omega)
      rw [← caught_mod, caught_in ok r0 r1]
      have xm : x % c.p % q = x % q := Int.emod_emod_of_dvd x (Int.dvd_of_emod_eq_zero qd)
      constructor
      · intro h
        rw [← e] at h
        obtain ⟨k, _, t, h1, h2, h3⟩ := repT_mem.mp h
        have t0 := ok.low t h1
        refine ⟨t, h1, h2, ?_⟩
        rw [← xm, h3, Int.mul_comm, Int.add_comm, Int.add_mul_emod_self_left, Int.emod_eq_of_lt t0 h2]
      · rintro ⟨t, h1, h2, h3⟩
        rw [← e]
        have ed := Int.emod_add_mul_ediv (x % c.p) q
        rw [xm, h3] at ed
        have d0 : 0 ≤ x % c.p / q := Int.ediv_nonneg r0 (by omega)
        have d1 : x % c.p / q < N := by
          apply Int.ediv_lt_of_lt_mul (by omega)
          rw [hN]; exact r1
        refine repT_mem.mpr ⟨(x % c.p / q).toNat, by omega, t, h1, h2, ?_⟩
        rw [Int.toNat_of_nonneg d0, Int.mul_comm]
        omega
    have e2 : (n + q) % q = n % q := by
      have := Int.add_mul_emod_self_left n q 1
      rw [Int.mul_one] at this
      exact this
    cases h1 : caught c (n + q) with
    | true =>
      have := (key (n + q)).mp h1
      rw [e2] at this
      exact ((key n).mpr this).symm
    | false =>
      cases h2 : caught c n with
      | false => rfl
      | true =>
        have := (key n).mp h2
        rw [← e2] at this
        rw [(key (n + q)).mpr this] at h1
        cases h1
  · intro h
    -- both ascend and have the same elements
    have up1 : (repT c.ts q N).Pairwise (· < ·) := by
      have : ∀ M : Nat, (repT c.ts q M).Pairwise (· < ·) ∧ ∀ x ∈ repT c.ts q M, x < (M : Int) * q := fun M => by
        induction M with
        | zero => exact ⟨List.Pairwise.nil, fun x hx => nomatch hx⟩
        | succ M ih =>
          rw [repT_succ]
          have uu : ((under c.ts q).map fun t => (M : Int) * q + t).Pairwise (· < ·) := List.pairwise_map.mpr ((List.Pairwise.filter _ ok.up).imp fun h => by omega)
          refine ⟨List.pairwise_append.mpr ⟨ih.1, uu, fun a ha b hb => ?_⟩, fun x hx => ?_⟩
          · obtain ⟨t, ht, rfl⟩ := List.mem_map.mp hb
            have := ih.2 a ha
            have := ok.low t (List.mem_filter.mp ht).1
            omega
          · have em : ((M + 1 : Nat) : Int) * q = (M : Int) * q + q := by rw [show ((M + 1 : Nat) : Int) = (M : Int) + 1 by omega, Int.add_mul, Int.one_mul]
            rcases List.mem_append.mp hx with z | z
            · have := ih.2 x z; omega
            · obtain ⟨t, ht, rfl⟩ := List.mem_map.mp z
              have := of_decide_eq_true (List.mem_filter.mp ht).2
              omega
      exact (this N).1
    refine asc_ext up1 ok.up fun x => ?_
    rw [repT_mem]
    constructor
    · rintro ⟨k, hk, t, h1, h2, rfl⟩
      have t0 := ok.low t h1
      have kq : (k : Int) * q + q ≤ c.p := by
        rw [← hN]
        have := Int.mul_le_mul_of_nonneg_right (show (k : Int) + 1 ≤ (N : Int) by omega) (show 0 ≤ q by omega)
        rw [Int.add_mul, Int.one_mul] at this
        exact this
      have k0 : 0 ≤ (k : Int) * q := Int.mul_nonneg (by omega) (by omega)
      refine (caught_in ok (by omega) (by omega)).mp ?_
      have := h.all t (k : Int)
      rw [show (k : Int) * q + t = t + q * (k : Int) by rw [Int.mul_comm]; omega, this]
      exact (caught_in ok t0 (by omega)).mpr h1
    · intro hx
      have x0 := ok.low x hx
      have x1 := ok.high x hx
      have ed := Int.emod_add_mul_ediv x q
      have r0 := Int.emod_nonneg x (show q ≠ 0 by omega)
      have r1 := Int.emod_lt_of_pos x (show 0 < q by omega)
      have d0 : 0 ≤ x / q := Int.ediv_nonneg x0 (by omega)
      have d1 : x / q < N := by
        apply Int.ediv_lt_of_lt_mul (by omega)
        rw [hN]; exact x1
      refine ⟨(x / q).toNat, by omega, x % q, ?_, r1, ?_⟩
      · refine (caught_in ok r0 (by omega)).mp ?_
        have := h.all (x % q) (x / q)
        rw [ed] at this
        rw [← this]
        exact (caught_in ok x0 x1).mpr hx
      · rw [Int.toNat_of_nonneg d0, Int.mul_comm]; omega
/-- the comb of a part -/
theorem part_ok {c : Comb} (ok : c.Ok) {q : Int} (q1 : 1 ≤ q) (qp : q < c.p) (qd : c.p % q = 0) (h : Per c q) : (Comb.mk q (under c.ts q)).Ok ∧ ∀ n, caught (Comb.mk q (under c.ts q)) n = caught c n := by
  have p24 := ok.p24
  have same : ∀ n, caught (Comb.mk q (under c.ts q)) n = caught c n := fun n => by
    have r0 := Int.emod_nonneg n (show q ≠ 0 by omega)
    have r1 := Int.emod_lt_of_pos n (show 0 < q by omega)
    have e : caught c n = caught c (n % q) := by
      have := h.all (n % q) (n / q)
      rw [Int.emod_add_mul_ediv] at this
      exact this
    rw [e]
    have e2 : caught (Comb.mk q (under c.ts q)) n = decide (n % q ∈ under c.ts q) := rfl
    rw [e2]
    cases z : caught c (n % q) with
    | true => exact decide_eq_true (List.mem_filter.mpr ⟨(caught_in ok r0 (by omega)).mp z, decide_eq_true r1⟩)
    | false =>
      refine decide_eq_false fun m => ?_
      rw [(caught_in ok r0 (by omega)).mpr (List.mem_filter.mp m).1] at z
      cases z
  refine ⟨⟨q1, by show q ≤ 24; omega, fun e => ?_, fun t ht => ok.low t (List.mem_filter.mp ht).1, fun t ht => of_decide_eq_true (List.mem_filter.mp ht).2, List.Pairwise.filter _ ok.up⟩, same⟩
  cases q2 : c.ts with
  | nil => exact ok.ne q2
  | cons a r =>
    have ha : a ∈ c.ts := by rw [q2]; exact List.mem_cons_self
    have s := same a
    rw [(caught_in ok (ok.low a ha) (ok.high a ha)).mpr ha] at s
    have s2 : decide (a % q ∈ under c.ts q) = true := s
    have e' : under c.ts q = [] := e
    rw [e'] at s2
    cases s2
end PD

/-! PD71: == of lists of numbers -/
namespace PD
open PySem PySem.Spec PyProof.Rows L2 Evl
theorem eqv_consI (a b : Int) (xs ys : List D) : PyData.eqv (.list (.int a :: xs)) (.list (.int b :: ys)) = ((a == b) && PyData.eqv (.list xs) (.list ys)) := rfl
theorem eqv_ints : ∀ a b : List Int, PyData.eqv (.list (a.map PyData.int)) (.list (b.map PyData.int)) = decide (a = b)
  | [], [] => rfl
  | [], b :: bs => rfl
  | a :: as, [] => rfl
  | a :: as, b :: bs => by
    rw [List.map_cons, List.map_cons, eqv_consI, eqv_ints as bs]
    by_cases h1 : a = b <;> by_cases h2 : as = bs <;> simp [h1, h2]
end PD

/-! PD72: [.. for x, y, z in triples]; rises told -/
namespace PD
open PySem PySem.Spec PyProof.Rows L2 Evl
section
variable {c : Cn} {K : PySem.W.Frag} {ds : DS} {pl : List D} {Φ : W → List D → Prop} {te tl : TE} {tt : TT}
theorem we_lcP3 {j1 j2 j3 : Nat} (J : Nat → List D → List D → Prop) (xs : List (D × D × D)) (no : Nod ds)
    (h : WE c tl ds pl (isD fun d p1 => d = .list (xs.map fun x => .tuple [x.1, x.2.1, x.2.2]) ∧ J 0 [] p1))
    (user : ∀ (i : Nat) x acc pl', xs[i]? = some x → J i acc pl' → ∀ pin, WT { c with pin := pin } tt ((((wipeD ds [j1, j2, j3]).set j1 (some (.d x.1))).set j2 (some (.d x.2.1))).set j3 (some (.d x.2.2))) pl' fun b p2 =>
      if b = true then WE { c with pin := pin } te ((((wipeD ds [j1, j2, j3]).set j1 (some (.d x.1))).set j2 (some (.d x.2.1))).set j3 (some (.d x.2.2))) p2 (isD fun y p3 => acc.length < sizeLine ∧ J (i + 1) (acc ++ [y]) p3) else J (i + 1) acc p2)
    (hq : ∀ acc pl', J xs.length acc pl' → Φ (.d (.list acc)) pl') : WE c (tLc (iList K tl) (gTup K 3 (gCons (gName j1) (gCons (gName j2) (gCons (gName j3) gNil)))) tt te [j1, j2, j3]) ds pl Φ := fun G σ H h0 Q q => h G σ H h0 _ fun v G1 H1 w p1 h1 e1 f1 g1 => by
  match w, f1, g1 with
  | .d d, f1, ⟨ed, g1⟩ =>
    subst ed
    cases f1 with
    | @lst a vs _ a1 b1 =>
    refine ⟨a, rfl, ⟨vs, SqL.of (h1.sub _ _ a1)⟩, fun Dl hD => ?_⟩
    have f := df_new h1 hD
    refine lc_list (K := K) (a := a) (xs := vs) (PvC c σ ds G1 Dl J) (pv_start J h1 hD g1) ?_ ?_ ?_
    · rintro i H' _ ⟨G', pl', acc, us, h2, e2, _⟩
      exact SqL.of (h2.sub _ _ (e2 _ _ a1))
    · intro i x H' hx p
      obtain ⟨G', pl', acc, us, h2, e2, hD2, ra, gD, hJ⟩ := id p
      obtain ⟨d, hd1, hd2⟩ := b1.get' hx
      rw [List.getElem?_map] at hd1
      cases hxi : xs[i]? with
      | none => rw [hxi] at hd1; cases hd1
      | some z =>
        rw [hxi] at hd1
        cases hd1
        cases hd2 with
        | @tup T us3 _ k1 b =>
        cases b with
        | @cons x1 _ _ _ k2 b =>
        cases b with
        | @cons x2 _ _ _ k3 b =>
        cases b with
        | @cons x3 _ _ _ k4 b =>
        cases b
        have kH : H' T = some (.tup [x1, x2, x3]) := h2.sub _ _ (e2 _ _ k1)
        have mem : ∀ w ∈ [j1, j2, j3], w ∈ [j1, j2, j3] := fun w hw => hw
        refine ⟨T, _, rfl, SqT.of kH, rfl, _, _, rfl, _, _, rfl, _, _, rfl, rfl, ?_, ?_⟩
        · rw [wipe_in (by simp), wipe_in (by simp), wipe_in (by simp), wipe_sub mem]
        have hw := (((h2.wipe [j1, j2, j3]).set (i := j1) (w := .d z.1) (R.up k2 e2) fun xs z => by cases z).set (i := j2) (w := .d z.2.1) (R.up k3 e2) fun xs z => by cases z).set (i := j3) (w := .d z.2.2) (R.up k4 e2) fun xs z => by cases z
        have nod := (((no.wipe [j1, j2, j3]).set j1 z.1).set j2 z.2.1).set j3 z.2.2
        exact lc_turnG J f (nod.df f) (fun i' xs' q => absurd q (no i' xs')) h2 hw e2 (Ex.refl _) hD2 gD ra (fun pin => user i z acc pl' hxi hJ pin) hJ
    · intro H' p
      rw [b1.len, List.length_map] at p
      exact pv_end f p hq fun v G' H' w pl' h2 e2 f2 g2 => q v G' H' w pl' h2 (e1.trans e2) f2 g2
end
def riseL (v : Dv) (ns : List (Int × Int)) (m : Int) : List Int := (fitL v ns).map fun b => (mv v b.2 m).1 - b.2.1
def AllEq (l : List Int) : Prop := ∀ a ∈ l, ∀ b ∈ l, a = b
theorem rise_up {v : Dv} {m : Int} (h : 0 < m) (s : Sv) : (mv v s m).1 - s.1 = m - min m (slk v.2 (lf s)) := by
  rw [mv_up' h]
  show s.1 + m - min m (slk v.2 (lf s)) - s.1 = _
  omega
theorem rise_down {v : Dv} {m : Int} (h : ¬ 0 < m) (s : Sv) : (mv v s m).1 - s.1 = 0 - min (-m) (slk v.1 s.1) := by
  rw [mv_down' h]
  show s.1 - min (-m) (slk v.1 s.1) - s.1 = _
  omega
end PD

/-! PD73: least pitches, states alike -/
namespace PD
open PySem PySem.Spec PyProof.Rows L2 Evl
def LeastP (c : Comb) (P : Int) : Prop := 1 ≤ P ∧ P ≤ c.p ∧ c.p % P = 0 ∧ Per c P ∧ ∀ q, 1 ≤ q → q < P → c.p % q = 0 → ¬ Per c q
theorem leastP_of {c b : Comb} (ob : b.Ok) (same : ∀ n, caught b n = caught c n) (h1 : b.p ≤ c.p) (h2 : c.p % b.p = 0) (h3 : ∀ q, 1 ≤ q → q < b.p → c.p % q = 0 → ¬ Per c q) : LeastP c b.p := by
  refine ⟨ob.p1, h1, h2, fun n => ?_, h3⟩
  rw [← same, ← same, ← caught_mod (c := b) (n + b.p), ← caught_mod (c := b) n]
  have := Int.add_mul_emod_self_left n b.p 1
  rw [Int.mul_one] at this
  rw [this]
/-- slacks come again with a part -/
theorem slk_per {c : Comb} (ok : c.Ok) {q : Int} (h : Per c q) (n k : Int) : slk c (n + q * k) = slk c n := by
  have a := flo_spec ok n
  have key : IsBelow c (n + q * k) (flo c n + q * k) := ⟨by have := a.1; omega, by rw [h.all]; exact a.2.1, fun y y1 y2 => by
    have := a.2.2 (y - q * k) (by omega) (by omega)
    have e := h.all (y - q * k) k
    rw [show y - q * k + q * k = y by omega] at e
    rw [e]; exact this⟩
  have := (flo_spec ok (n + q * k)).uniq key
  unfold slk
  omega
end PD

/-! PD74: zip of three lists in a comprehension -/
namespace PD
open PySem PySem.Spec PyProof.Rows L2 Evl
theorem sep3 (N a b d : Nat) (la : a < N) (lb : b < N) (ld : d < N) : ZipSep3 (N + 5) (N + 3) (N + 4) N (N + 1) (N + 2) [N, a] [N + 1, b] [N + 2, d] := by
  have h : ∀ x y z : Nat, x ≠ y → x ≠ z → ¬ x ∈ [y, z] := fun x y z h1 h2 q => by
    rcases List.mem_cons.mp q with e | e
    · exact h1 e
    · exact h2 (List.mem_singleton.mp e)
  exact ⟨show N + 3 ≠ N + 5 by omega, show N + 4 ≠ N + 5 by omega, show N + 3 ≠ N + 4 by omega, show N + 3 ≠ N by omega, List.mem_cons_self, h _ _ _ (by omega) (by omega), h _ _ _ (by omega) (by omega),
    show N + 3 ≠ N + 1 by omega, List.mem_cons_self, h _ _ _ (by omega) (by omega), h _ _ _ (by omega) (by omega), show N + 3 ≠ N + 2 by omega, List.mem_cons_self, h _ _ _ (by omega) (by omega), h _ _ _ (by omega) (by omega),
    h _ _ _ (by omega) (by omega), h _ _ _ (by omega) (by omega), h _ _ _ (by omega) (by omega), h _ _ _ (by omega) (by omega), h _ _ _ (by omega) (by omega), h _ _ _ (by omega) (by omega)⟩
theorem ne_iter {h : Heap} {a it l : Addr} {i : Nat} {xs : Array Value} (p : h.IsList a xs) (q : h.IsListIter it l i) : a ≠ it := fun e => by
  obtain ⟨o, e1, c1, _⟩ := p
  obtain ⟨o', e2, c2, _⟩ := q
  rw [e, e2] at e1
  cases e1
  rw [c1] at c2
  simp at c2
/-- three lists as they stand at each turn, the items in new triples -/
def Itz3 (K : PySem.W.Frag) (a b d : Addr) : It :=
  ⟨fun i H => ∃ (xs ys zs : List V) (x y z : V), SqL K H a xs ∧ SqL K H b ys ∧ SqL K H d zs ∧ xs[i]? = some x ∧ ys[i]? = some y ∧ zs[i]? = some z,
    fun i H v H' => ∃ T x y z, v = .ref T ∧ H T = none ∧ H' = upd H T (.tup [x, y, z]) ∧ (∀ xs, SqL K H a xs → xs[i]? = some x) ∧ (∀ ys, SqL K H b ys → ys[i]? = some y) ∧ ∀ zs, SqL K H d zs → zs[i]? = some z,
    fun i H => ∃ xs ys zs : List V, SqL K H a xs ∧ SqL K H b ys ∧ SqL K H d zs ∧ i ≤ xs.length ∧ i ≤ ys.length ∧ i ≤ zs.length ∧ (xs.length = i ∨ ys.length = i ∨ zs.length = i)⟩
theorem turn_zip3 {P : Program} {w : World} {K : PySem.W.Frag} {elts : List Expr} {kk : Nat} {tpos : Pos} {a b d z TI TO i1 i2 i3 : Addr} (S : ZipSep3 z TI TO i1 i2 i3 [i1, a] [i2, b] [i3, d]) :
    Turn P w K (.Tuple elts kk tpos) (Itz3 K a b d) [z, TI, TO, i1, i2, i3] z (fun i h => IsZip h z TI TO .none ∧ IsTupOf3 h TI (.ref i1) (.ref i2) (.ref i3) ∧ (∃ x y u, IsTupOf3 h TO x y u) ∧ h.IsListIter i1 a i ∧ h.IsListIter i2 b i ∧ h.IsListIter i3 d i) where
  mem := by simp
  obj := fun i h st c hc => by
    obtain ⟨hz, hTI, ⟨x, y, u, hTO⟩, ⟨o1, e1, _, d1⟩, ⟨o2, e2, _, d2⟩, ⟨o3, e3, _, d3⟩⟩ := st
    have e' : c = z ∨ c = TI ∨ c = TO ∨ c = i1 ∨ c = i2 ∨ c = i3 := by simpa using hc
    rcases e' with q | q | q | q | q | q
    · rw [q]; exact ⟨_, hz, fun v q => nomatch q⟩
    · rw [q]; exact ⟨_, hTI, fun v q => nomatch q⟩
    · rw [q]; exact ⟨_, hTO, fun v q => nomatch q⟩
    · rw [q]; exact ⟨o1, e1, fun v q => by rw [d1] at q; cases q⟩
    · rw [q]; exact ⟨o2, e2, fun v q => by rw [d2] at q; cases q⟩
    · rw [q]; exact ⟨o3, e3, fun v q => by rw [d3] at q; cases q⟩
  keep := fun i h h' st k => by
    obtain ⟨hz, hTI, ⟨x, y, u, hTO⟩, h1, h2, h3⟩ := st
    exact ⟨k z (by simp) _ hz, k TI (by simp) _ hTI, ⟨x, y, u, k TO (by simp) _ hTO⟩, h1.at fun o q => k i1 (by simp) o q, h2.at fun o q => k i2 (by simp) o q, h3.at fun o q => k i3 (by simp) o q⟩
  item := by
    intro X hP hw hK hc i pins s σ H E I hf st hg
    subst hP hw hK
    obtain ⟨hz, hTI, ⟨x0, y0, z0, hTO⟩, h1, h2, h3⟩ := st
    obtain ⟨xs, ys, zs, x, y, v, hqx, hqy, hqz, hx, hy, hv⟩ := hg
    obtain ⟨its, rv, p, _⟩ := I.list hqx
    obtain ⟨its2, rv2, p2, _⟩ := I.list hqy
    obtain ⟨its3, rv3, p3, _⟩ := I.list hqz
    obtain ⟨u, hu, ru⟩ := rv.get hx
    obtain ⟨u2, hu2, ru2⟩ := rv2.get hy
    obtain ⟨u3, hu3, ru3⟩ := rv3.get hv
    have hh : X.A.in1.handled = none := I.ok.hd hc
    have n1 : a ≠ i1 := ne_iter p.isList h1
    have n2 : b ≠ i2 := ne_iter p2.isList h2
    have n3 : d ≠ i3 := ne_iter p3.isList h3
    have D1 := Draws.list (prog := X.prog) (w := X.w) hh i1 a n1 its.toArray
    have D2 := Draws.list (prog := X.prog) (w := X.w) hh i2 b n2 its2.toArray
    have D3 := Draws.list (prog := X.prog) (w := X.w) hh i3 d n3 its3.toArray
    have hzl : z < s.heap.objs.size := Heap.lt_size hz
    have l1 : i < its.toArray.size := by have := (List.getElem?_eq_some_iff.mp hu).1; simpa using this
    have l2 : i < its2.toArray.size := by have := (List.getElem?_eq_some_iff.mp hu2).1; simpa using this
    have l3 : i < its3.toArray.size := by have := (List.getElem?_eq_some_iff.mp hu3).1; simpa using this
    refine wpAny_pyNext_zipD3_item S D1 D2 D3 hz hTI hTO ⟨h1, p.isList⟩ ⟨h2, p2.isList⟩ ⟨h3, p3.isList⟩ l1 l2 l3 fun x1 x2 x3 h' tk q1 q2 q3 z' TO' h1' h2' h3' hT hsz hk => ?_
    have g1 : x1 = u := by rw [show its.toArray[i]? = some u by simpa using hu] at q1; exact (Option.some.inj q1).symm
    have g2 : x2 = u2 := by rw [show its2.toArray[i]? = some u2 by simpa using hu2] at q2; exact (Option.some.inj q2).symm
    have g3 : x3 = u3 := by rw [show its3.toArray[i]? = some u3 by simpa using hu3] at q3; exact (Option.some.inj q3).symm
    subst g1 g2 g3
    refine ⟨_, rfl, wpAny_letOwnedTupleGo_zip (s := { s with heap := h', toks := tk }) z' fun h'' z'' sb => ?_⟩
    have hT2 : h''.get? s.heap.objs.size = some { cls := .type "tuple", data := .seq #[x1, x2, x3] } := (sb.2 _ (Nat.ne_of_gt hzl)).trans hT
    have new : ObjOk X.prog X.w (upd H s.heap.objs.size (.tup [x, y, v])) h'' s.heap.objs.size (.tup [x, y, v]) :=
      ⟨by show 3 ≤ sizeLine; decide, [x1, x2, x3], .cons ru (.cons ru2 (.cons ru3 .nil)), ⟨_, hT2, rfl, _, rfl⟩⟩
    have I1 : Inv X pins σ (upd H s.heap.objs.size (.tup [x, y, v])) { s with heap := h'', toks := tk } :=
      I.turnedNew (t' := tk) (ch := [z, TI, TO, i1, i2, i3]) (fun c o hb q => (sb.2 c (fun q' => hb (by simp [q']))).trans (hk c o (fun q' => hb (by simp [q'])) (fun q' => hb (by simp [q'])) (fun q' => hb (by simp [q'])) (fun q' => hb (by simp [q'])) (fun q' => hb (by simp [q'])) q)) hf (Nat.le_refl _) new
    refine ⟨.ref s.heap.objs.size, _, I1, rfl, ⟨_, x, y, v, rfl, I.hok.fresh (Nat.le_refl _), rfl, fun l hl => by rw [I.list_inj hl hqx]; exact hx, fun l hl => by rw [I.list_inj hl hqy]; exact hy, fun l hl => by rw [I.list_inj hl hqz]; exact hv⟩, ⟨z'', ?_, ⟨x1, x2, x3, ?_⟩, ?_, ?_, ?_⟩, fun c hcm => ?_⟩
    · exact (sb.2 _ S.TIz).trans (hk _ _ S.TIz S.TITO S.TIi1 S.TIi2 S.TIi3 hTI)
    · exact (sb.2 _ S.TOz).trans TO'
    · exact h1'.1.at fun o q => (sb.2 _ S.zi1.symm).trans q
    · exact h2'.1.at fun o q => (sb.2 _ S.zi2.symm).trans q
    · exact h3'.1.at fun o q => (sb.2 _ S.zi3.symm).trans q
    · have hlt : c < s.heap.objs.size := by
        have e' : c = z ∨ c = TI ∨ c = TO ∨ c = i1 ∨ c = i2 ∨ c = i3 := by simpa using hcm
        rcases e' with q | q | q | q | q | q
        · rw [q]; exact hzl
        · rw [q]; exact Heap.lt_size hTI
        · rw [q]; exact Heap.lt_size hTO
        · rw [q]; obtain ⟨_, e1, _⟩ := h1; exact Heap.lt_size e1
        · rw [q]; obtain ⟨_, e2, _⟩ := h2; exact Heap.lt_size e2
        · rw [q]; obtain ⟨_, e3, _⟩ := h3; exact Heap.lt_size e3
      rw [upd_ne (Nat.ne_of_lt hlt)]
      exact (hf c hcm).1
  done := by
    intro X hP hw hK hc i pins s σ H E I hf st hg
    subst hP hw hK
    obtain ⟨hz, hTI, ⟨x0, y0, z0, hTO⟩, h1, h2, h3⟩ := st
    obtain ⟨xs, ys, zs, hqx, hqy, hqz, b1, b2, b3, hend⟩ := hg
    obtain ⟨its, rv, p, _⟩ := I.list hqx
    obtain ⟨its2, rv2, p2, _⟩ := I.list hqy
    obtain ⟨its3, rv3, p3, _⟩ := I.list hqz
    have l1 := rv.length
    have l2 := rv2.length
    have l3 := rv3.length
    have hh : X.A.in1.handled = none := I.ok.hd hc
    have n1 : a ≠ i1 := ne_iter p.isList h1
    have n2 : b ≠ i2 := ne_iter p2.isList h2
    have n3 : d ≠ i3 := ne_iter p3.isList h3
    have D1 := Draws.list (prog := X.prog) (w := X.w) hh i1 a n1 its.toArray
    have D2 := Draws.list (prog := X.prog) (w := X.w) hh i2 b n2 its2.toArray
    have D3 := Draws.list (prog := X.prog) (w := X.w) hh i3 d n3 its3.toArray
    exact wpAny_pyNext_zipD3_end S D1 D2 D3 hz hTI hTO ⟨h1, p.isList⟩ ⟨h2, p2.isList⟩ ⟨h3, p3.isList⟩ (by simp; omega) (by simp; omega) (by simp; omega) (by simp; omega) fun h' tk hk => ⟨rfl, I.turnedL (t' := tk) (ch := [z, TI, TO, i1, i2, i3]) (fun c o hb q =>
      hk c o (fun q' => hb (by simp [q'])) (fun q' => hb (by simp [q'])) (fun q' => hb (by simp [q'])) (fun q' => hb (by simp [q'])) (fun q' => hb (by simp [q'])) q) hf⟩
  self := fun A i s Q E st h => wpAny_pyIter_zip st.1 h
def iZip3 (K : PySem.W.Frag) (ta : TA) : TI := fun σ H R => ta σ H fun vs H1 => ∃ a b d xs ys zs, vs = [.ref a, .ref b, .ref d] ∧ SqL K H1 a xs ∧ SqL K H1 b ys ∧ SqL K H1 d zs ∧ R (Itz3 K a b d) H1
theorem pi_zip3 {X : Cx} {e e2 e3 : Expr} {ta : TA} {p pos tpos : Pos} {elts : List Expr} {kk : Nat} (hg : Gl X "zip") (hm : X.mg "zip" = none) (ha : PA X [e, e2, e3] ta)
    (hs : starEach [e, e2, e3] X.env = (false, eval e X.env) :: starEach [e2, e3] X.env := by rfl) (hpl : (backTo pos (starEach [e2, e3] X.env)).any (·.1) = false := by rfl) :
    PI X (.Tuple elts kk tpos) (.Call (.Name "zip" p) [e, e2, e3] [] pos) (iZip3 X.K ta) := by
  refine ⟨fun pins s σ H R I h => ?_⟩
  refine Call_ (ld_blt I hg hm PyProof.Rows.boot_zip (PyProof.Rows.callWith_type1 (thn (ha.run pos pins s σ H _ I h) fun us s1 ⟨vs, H1, I1, r1, q1⟩ => ?_) hs hpl))
  obtain ⟨a, b, d, xs, ys, zs, ex, hqx, hqy, hqz, q⟩ := q1
  subst ex
  cases r1 with
  | cons r rr =>
  cases rr with
  | cons r' rr =>
  cases rr with
  | cons r'' rr =>
  cases rr
  cases r
  cases r'
  cases r''
  obtain ⟨its, rv, p1, _⟩ := I1.list hqx
  obtain ⟨its2, rv2, p2, _⟩ := I1.list hqy
  obtain ⟨its3, rv3, p3, _⟩ := I1.list hqz
  have la : a < s1.heap.objs.size := p1.lt
  have lb : b < s1.heap.objs.size := p2.lt
  have ld : d < s1.heap.objs.size := p3.lt
  refine zip_begins3 (begins_list a its.toArray) (begins_list b its2.toArray) (begins_list d its3.toArray) p1.isList p2.isList p3.isList fun h' hz hTI hTO h1 h2 h3 hsz hk => wpAny_pyIter_zip hz ?_
  have I2 : Inv X pins σ H1 { s1 with heap := h' } := I1.kept (t' := s1.toks) hk
  have S : ZipSep3 (s1.heap.objs.size + 5) (s1.heap.objs.size + 3) (s1.heap.objs.size + 4) s1.heap.objs.size (s1.heap.objs.size + 1) (s1.heap.objs.size + 2) [s1.heap.objs.size, a] [s1.heap.objs.size + 1, b] [s1.heap.objs.size + 2, d] := by
    exact sep3 _ _ _ _ la lb ld
  refine ⟨s1.heap.objs.size + 5, [s1.heap.objs.size + 5, s1.heap.objs.size + 3, s1.heap.objs.size + 4, s1.heap.objs.size, s1.heap.objs.size + 1, s1.heap.objs.size + 2], _, _, H1, rfl, I2, turn_zip3 S, ⟨hz, hTI, ⟨_, _, _, hTO⟩, ⟨_, h1, rfl, rfl⟩, ⟨_, h2, rfl, rfl⟩, ⟨_, h3, rfl, rfl⟩⟩, fun c hcm => ?_, q⟩
  have hle : s1.heap.objs.size ≤ c := by
    have e' : c = s1.heap.objs.size + 5 ∨ c = s1.heap.objs.size + 3 ∨ c = s1.heap.objs.size + 4 ∨ c = s1.heap.objs.size ∨ c = s1.heap.objs.size + 1 ∨ c = s1.heap.objs.size + 2 := by simpa using hcm
    rcases e' with z | z | z | z | z | z <;> rw [z] <;> first | exact Nat.le_add_right _ _ | exact Nat.le_refl _
  exact I1.fpOk hle (I1.hok.fresh hle)
section
variable {c : Cn} {K : PySem.W.Frag} {ds : DS} {pl : List D} {Φ : W → List D → Prop} {ta tb te : TE} {tr : TA} {tt : TT} {G H : Hp} {σ : L2.St}
theorem ra3 {G : Hp} {vs : List V} {x y z : D} (h : RA G vs [x, y, z]) : ∃ a b c, vs = [a, b, c] ∧ R G a x ∧ R G b y ∧ R G c z := by
  cases h with
  | cons a h =>
  cases h with
  | cons b h =>
  cases h with
  | cons c h =>
  cases h
  exact ⟨_, _, _, rfl, a, b, c⟩
/-- [e for a, b, c in zip(xs, ys, zs) if t] -/
theorem we_lcZ3 {j1 j2 j3 : Nat} (J : Nat → List D → List D → Prop) (xs ys zs : List D) (n : Nat) (hl : xs.length = n ∧ n ≤ ys.length ∧ n ≤ zs.length) (no : Nod ds)
    (h : WA c tr ds pl fun us p1 => us = [.list xs, .list ys, .list zs] ∧ J 0 [] p1)
    (user : ∀ (i : Nat) x y z acc pl', xs[i]? = some x → ys[i]? = some y → zs[i]? = some z → J i acc pl' → ∀ pin, WT { c with pin := pin } tt ((((wipeD ds [j1, j2, j3]).set j1 (some (.d x))).set j2 (some (.d y))).set j3 (some (.d z))) pl' fun b p2 =>
      if b = true then WE { c with pin := pin } te ((((wipeD ds [j1, j2, j3]).set j1 (some (.d x))).set j2 (some (.d y))).set j3 (some (.d z))) p2 (isD fun y p3 => acc.length < sizeLine ∧ J (i + 1) (acc ++ [y]) p3) else J (i + 1) acc p2)
    (hq : ∀ acc pl', J n acc pl' → Φ (.d (.list acc)) pl') : WE c (tLc (iZip3 K tr) (gTup K 3 (gCons (gName j1) (gCons (gName j2) (gCons (gName j3) gNil)))) tt te [j1, j2, j3]) ds pl Φ := fun G σ H h0 Q q => h G σ H h0 _ fun vs G1 H1 us p1 h1 e1 f1 ⟨ez, g1⟩ => by
  subst ez
  obtain ⟨v, u, o, rfl, r1, r2, r3⟩ := ra3 f1
  cases r1 with
  | @lst a us1 _ a1 b1 =>
  cases r2 with
  | @lst b us2 _ a2 b2 =>
  cases r3 with
  | @lst d us3 _ a3 b3 =>
  refine ⟨a, b, d, us1, us2, us3, rfl, SqL.of (h1.sub _ _ a1), SqL.of (h1.sub _ _ a2), SqL.of (h1.sub _ _ a3), fun Dl hD => ?_⟩
  have f := df_new h1 hD
  have m1 := b1.len
  have m2 := b2.len
  have m3 := b3.len
  refine ⟨fun i m H' => m = n - i ∧ i ≤ n ∧ PvC c σ ds G1 Dl J i H', ⟨n, by simp, Nat.zero_le _, pv_start J h1 hD g1⟩, ?_⟩
  rintro i m H' ⟨rfl, hi, p⟩
  obtain ⟨G', pl', acc, us, h2, e2, hD2, ra, gD, hJ⟩ := id p
  have sq1 : SqL K H' a us1 := SqL.of (h2.sub _ _ (e2 _ _ a1))
  have sq2 : SqL K H' b us2 := SqL.of (h2.sub _ _ (e2 _ _ a2))
  have sq3 : SqL K H' d us3 := SqL.of (h2.sub _ _ (e2 _ _ a3))
  by_cases hlt : i < n
  · have t1 : i < us1.length := by omega
    have t2 : i < us2.length := by omega
    have t3 : i < us3.length := by omega
    refine .inr ⟨⟨us1, us2, us3, us1[i], us2[i], us3[i], sq1, sq2, sq3, by simp [t1], by simp [t2], by simp [t3]⟩, PvC c σ ds G1 Dl J (i + 1), fun H3 q => ⟨n - (i + 1), by omega, rfl, hlt, q⟩, ?_⟩
    rintro x H3 ⟨T, x1, x2, x3, rfl, hT, rfl, y1, y2, y3⟩
    obtain ⟨d1, hd1, hr1⟩ := b1.get' (y1 us1 sq1)
    obtain ⟨d2, hd2, hr2⟩ := b2.get' (y2 us2 sq2)
    obtain ⟨d3, hd3, hr3⟩ := b3.get' (y3 us3 sq3)
    have nn := h2.none_of hT
    have e3 : Ex G' (upd G' T (.tup [x1, x2, x3])) := Ex.new nn.1
    have mem : ∀ w ∈ [j1, j2, j3], w ∈ [j1, j2, j3] := fun w hw => hw
    refine ⟨T, _, rfl, SqT.of upd_same, rfl, _, _, rfl, _, _, rfl, _, _, rfl, rfl, ?_, ?_⟩
    · rw [wipe_in (by simp), wipe_in (by simp), wipe_in (by simp), wipe_sub mem]
    have hw := ((((h2.newD (o := .tup [x1, x2, x3]) hT).wipe [j1, j2, j3]).set (i := j1) (w := .d d1) (R.up hr1 (e2.trans e3)) fun xs z => by cases z).set (i := j2) (w := .d d2) (R.up hr2 (e2.trans e3)) fun xs z => by cases z).set (i := j3) (w := .d d3) (R.up hr3 (e2.trans e3)) fun xs z => by cases z
    have nod := (((no.wipe [j1, j2, j3]).set j1 d1).set j2 d2).set j3 d3
    refine lc_turnG J f (nod.df f) (fun i' xs' q => absurd q (no i' xs')) h2 hw e2 e3 (by rw [upd_ne (ne_of_none hD2 hT)]; exact hD2) ?_ ra (fun pin => user i d1 d2 d3 acc pl' hd1 hd2 hd3 hJ pin) hJ
    rw [upd_ne (ne_of_none hD2 hT)]
    exact gD
  · have ei : i = n := by omega
    subst ei
    exact .inl ⟨⟨us1, us2, us3, sq1, sq2, sq3, by omega, by omega, by omega, by omega⟩, pv_end f p hq fun v G' H' w pl' h2 e2 f2 g2 => q v G' H' w pl' h2 (e1.trans e2) f2 g2⟩
end
end PD

/-! PD75: looks of moves from a state -/
namespace PD
open PySem PySem.Spec PyProof.Rows L2 Evl
def notesL (v : Dv) : Sv → List Int → List (Int × Int)
  | _, [] => []
  | s, m :: r => (m, (mv v s m).1 - s.1) :: notesL v (mv v s m) r
theorem notes_len (v : Dv) : ∀ (s : Sv) (ms : List Int), (notesL v s ms).length = ms.length
  | _, [] => rfl
  | s, m :: r => by show (notesL v (mv v s m) r).length + 1 = r.length + 1; rw [notes_len]
theorem notes_get (v : Dv) : ∀ (s : Sv) (ms : List Int) (i : Nat) (m : Int), ms[i]? = some m → (notesL v s ms)[i]? = some (m, (mvs v s (ms.take (i + 1))).1 - (mvs v s (ms.take i)).1)
  | _, [], _, _, h => by simp at h
  | s, m :: r, 0, _, h => by cases h; rfl
  | s, m :: r, i + 1, x, h => by
    show (notesL v (mv v s m) r)[i]? = some (x, (mvs v (mv v s m) (r.take (i + 1))).1 - (mvs v (mv v s m) (r.take i)).1)
    exact notes_get v _ r i x (by simpa using h)
theorem notes_take (v : Dv) : ∀ (s : Sv) (ms : List Int) (k : Nat), notesL v s (ms.take k) = (notesL v s ms).take k
  | _, _, 0 => rfl
  | _, [], _ + 1 => rfl
  | s, m :: r, k + 1 => by
    show _ :: notesL v (mv v s m) (r.take k) = _ :: (notesL v (mv v s m) r).take k
    rw [notes_take]
theorem notes_snoc (v : Dv) : ∀ (s : Sv) (ms : List Int) (m : Int), notesL v s (ms ++ [m]) = notesL v s ms ++ [(m, (mv v (mvs v s ms) m).1 - (mvs v s ms).1)]
  | _, [], _ => rfl
  | s, a :: r, m => by
    show _ :: notesL v (mv v s a) (r ++ [m]) = _
    rw [notes_snoc]
    rfl
theorem notes_run (v : Dv) : ∀ (s : Sv) (ms : List Int), runN v s (notesL v s ms) = some (mvs v s ms)
  | _, [] => rfl
  | s, m :: r => by
    show (if (mv v s m).1 - s.1 = (mv v s m).1 - s.1 then runN v (mv v s m) (notesL v (mv v s m) r) else none) = some (mvs v (mv v s m) r)
    rw [if_pos rfl, notes_run]
theorem rise_bd {v : Dv} (ok : v.Ok) (s : Sv) (m : Int) : ((mv v s m).1 - s.1).natAbs ≤ m.natAbs := by
  by_cases h : 0 < m
  · have := slk_nn ok.2 (lf s)
    rw [rise_up h]; omega
  · have := slk_nn ok.1 s.1
    rw [rise_down h]; omega
theorem notes_in {v : Dv} (ok : v.Ok) : ∀ (ms : List Int) (s : Sv) (q : Int × Int), q ∈ notesL v s ms → q.1 ∈ ms ∧ q.2.natAbs ≤ q.1.natAbs
  | [], _, _, h => nomatch h
  | m :: r, s, q, h => by
    rcases List.mem_cons.mp h with e | e
    · rw [e]; exact ⟨List.mem_cons_self, rise_bd ok s m⟩
    · have := notes_in ok r _ q e
      exact ⟨List.mem_cons_of_mem _ this.1, this.2⟩
theorem plc_start (v : Dv) (s : Sv) : plc v ((plc v s).1, (plc v s).1 - (plc v s).2) = plc v s := by
  show (s.1 % v.1.p % v.1.p, (s.1 % v.1.p - (s.1 % v.1.p - lf s % v.2.p)) % v.2.p) = (s.1 % v.1.p, lf s % v.2.p)
  rw [show s.1 % v.1.p - (s.1 % v.1.p - lf s % v.2.p) = lf s % v.2.p by omega, Int.emod_emod, Int.emod_emod]
theorem start_mem {v : Dv} (ok : v.Ok) {s : Sv} (h : held v s = true) : plc v s ∈ startsL v := by
  have p1 := ok.1.p1
  have p2 := ok.2.p1
  have a0 := Int.emod_nonneg s.1 (show v.1.p ≠ 0 by omega)
  have a1 := Int.emod_lt_of_pos s.1 (show 0 < v.1.p by omega)
  have l0 := Int.emod_nonneg (lf s) (show v.2.p ≠ 0 by omega)
  have l1 := Int.emod_lt_of_pos (lf s) (show 0 < v.2.p by omega)
  have hh : held v ((plc v s).1, (plc v s).1 - (plc v s).2) = true := by rw [plc_held (plc_start v s)]; exact h
  obtain ⟨a, ha⟩ : ∃ a : Nat, s.1 % v.1.p = a := ⟨_, (Int.toNat_of_nonneg a0).symm⟩
  obtain ⟨l, hl⟩ : ∃ l : Nat, lf s % v.2.p = l := ⟨_, (Int.toNat_of_nonneg l0).symm⟩
  have e : plc v s = ((a : Int), (l : Int)) := by show (s.1 % v.1.p, lf s % v.2.p) = _; rw [ha, hl]
  rw [e] at hh ⊢
  refine List.mem_flatMap.mpr ⟨a, List.mem_range.mpr (by omega), List.mem_map.mpr ⟨l, List.mem_filter.mpr ⟨List.mem_range.mpr (by omega), hh⟩, rfl⟩⟩
theorem run_plc2 {v : Dv} (ok : v.Ok) : ∀ (ns : List (Int × Int)) {s t s1 : Sv}, plc v s = plc v t → runN v s ns = some s1 → ∃ t1, runN v t ns = some t1 ∧ plc v s1 = plc v t1
  | [], s, t, s1, h, r => by cases r; exact ⟨t, rfl, h⟩
  | q :: rest, s, t, s1, h, r => by
    have e := mv_shift ok h q.1
    have e1 : (mv v t q.1).1 - t.1 = (mv v s q.1).1 - s.1 := by rw [e]; show (mv v s q.1).1 + (t.1 - s.1) - t.1 = _; omega
    have r' : (if (mv v s q.1).1 - s.1 = q.2 then runN v (mv v s q.1) rest else none) = some s1 := r
    by_cases z : (mv v s q.1).1 - s.1 = q.2
    · rw [if_pos z] at r'
      obtain ⟨t1, h1, h2⟩ := run_plc2 ok rest (plc_shift h e) r'
      refine ⟨t1, ?_, h2⟩
      show (if _ then runN v (mv v t q.1) rest else none) = some t1
      rw [e1, if_pos z]
      exact h1
    · rw [if_neg z] at r'
      cases r'
theorem notes_fit {v : Dv} (ok : v.Ok) {s : Sv} (h : held v s = true) (ms : List Int) : ∃ b ∈ fitL v (notesL v s ms), plc v (mvs v s ms) = plc v b.2 := by
  obtain ⟨t1, h1, h2⟩ := run_plc2 ok (notesL v s ms) (plc_start v s).symm (notes_run v s ms)
  refine ⟨(plc v s, t1), ?_, h2⟩
  unfold fitL
  rw [fit_run]
  refine List.mem_filterMap.mpr ⟨begun (plc v s), List.mem_map.mpr ⟨_, start_mem ok h, rfl⟩, ?_⟩
  show (runN v ((plc v s).1, (plc v s).1 - (plc v s).2) (notesL v s ms)).map _ = _
  rw [h1]
  rfl
theorem notes_rise {v : Dv} (ok : v.Ok) {s : Sv} (h : held v s = true) (ms : List Int) (m : Int) : (mv v (mvs v s ms) m).1 - (mvs v s ms).1 ∈ riseL v (notesL v s ms) m := by
  obtain ⟨b, hb, e⟩ := notes_fit ok h ms
  refine List.mem_map.mpr ⟨b, hb, ?_⟩
  rw [mv_shift ok e m]
  show (mv v (mvs v s ms) m).1 + (b.2.1 - (mvs v s ms).1) - b.2.1 = _
  omega
theorem fit_sub (v : Dv) (ns ms : List (Int × Int)) (st : Int × Int) (h : st ∈ (startsL v).filter fun st => (runN v (st.1, st.1 - st.2) (ns ++ ms)).isSome) : st ∈ (startsL v).filter fun st => (runN v (st.1, st.1 - st.2) ns).isSome := by
  rw [List.mem_filter] at h ⊢
  refine ⟨h.1, ?_⟩
  have h2 := h.2
  rw [runN_app] at h2
  cases e : runN v (st.1, st.1 - st.2) ns with
  | none => rw [e] at h2; cases h2
  | some t => rfl
theorem mv_alk {v : Dv} (ok : v.Ok) {P Q : Int} (h1 : Per v.1 P) (h2 : Per v.2 Q) {s t : Sv} {k j : Int} (a : t.1 = s.1 + P * k) (b : lf t = lf s + Q * j) (m : Int) : (mv v t m).1 - t.1 = (mv v s m).1 - s.1 ∧ (mv v t m).1 = (mv v s m).1 + P * k ∧ lf (mv v t m) = lf (mv v s m) + Q * j := by
  have e1 : slk v.1 t.1 = slk v.1 s.1 := by rw [a]; exact slk_per ok.1 h1 _ _
  have e2 : slk v.2 (lf t) = slk v.2 (lf s) := by rw [b]; exact slk_per ok.2 h2 _ _
  have key : (mv v t m).1 - t.1 = (mv v s m).1 - s.1 := by
    by_cases z : 0 < m
    · rw [rise_up z, rise_up z, e2]
    · rw [rise_down z, rise_down z, e1]
  have hd : ∀ x : Sv, (mv v x m).2 = x.2 + m := fun x => by unfold mv; by_cases z : m > 0 <;> simp [z]
  refine ⟨key, by omega, ?_⟩
  unfold lf at b ⊢
  rw [hd, hd]
  omega
theorem notes_alk {v : Dv} (ok : v.Ok) {P Q : Int} (h1 : Per v.1 P) (h2 : Per v.2 Q) : ∀ (ms : List Int) {s t : Sv} {k j : Int}, t.1 = s.1 + P * k → lf t = lf s + Q * j → notesL v t ms = notesL v s ms
  | [], _, _, _, _, _, _ => rfl
  | m :: r, s, t, k, j, a, b => by
    obtain ⟨c1, c2, c3⟩ := mv_alk ok h1 h2 a b m
    show (m, (mv v t m).1 - t.1) :: notesL v (mv v t m) r = (m, (mv v s m).1 - s.1) :: notesL v (mv v s m) r
    rw [c1, notes_alk ok h1 h2 r c2 c3]
theorem held_alk {v : Dv} {P Q : Int} (h1 : Per v.1 P) (h2 : Per v.2 Q) {s t : Sv} {k j : Int} (a : t.1 = s.1 + P * k) (b : lf t = lf s + Q * j) : held v t = held v s := by
  unfold held
  have e1 : caught v.1 t.1 = caught v.1 s.1 := by rw [a]; exact h1.all _ _
  have e2 : caught v.2 (t.1 - t.2) = caught v.2 (s.1 - s.2) := by
    have b' : t.1 - t.2 = s.1 - s.2 + Q * j := b
    rw [b']; exact h2.all _ _
  rw [e1, e2]
/-- the told state that is alike -/
theorem alk_of (s : Sv) (P Q : Int) : (∃ k, (s.1 % P, (s.1 % P - s.1 + s.2) % Q).1 = s.1 + P * k) ∧ ∃ j, lf (s.1 % P, (s.1 % P - s.1 + s.2) % Q) = lf s + Q * j := by
  have a := Int.emod_add_mul_ediv s.1 P
  have b := Int.emod_add_mul_ediv (s.1 % P - s.1 + s.2) Q
  refine ⟨⟨-(s.1 / P), by rw [Int.mul_neg]; show s.1 % P = _; omega⟩, ⟨(s.1 % P - s.1 + s.2) / Q, ?_⟩⟩
  show s.1 % P - (s.1 % P - s.1 + s.2) % Q = s.1 - s.2 + Q * ((s.1 % P - s.1 + s.2) / Q)
  omega
theorem notes_trail (v : Dv) (s : Sv) (ms : List Int) {i : Nat} {m : Int} {x y : Sv} (h : ms[i]? = some m) (hx : (s :: trail v s ms)[i]? = some x) (hy : (trail v s ms)[i]? = some y) : (notesL v s ms)[i]? = some (m, y.1 - x.1) := by
  have hlt := (List.getElem?_eq_some_iff.mp h).1
  rw [notes_get v s ms i m h]
  rw [trail_get v s ms i hlt] at hy
  cases hy
  cases i with
  | zero => cases hx; rfl
  | succ i =>
    rw [List.getElem?_cons_succ, trail_get v s ms i (by omega)] at hx
    cases hx
    rfl
section
variable {c : Cn} {K : PySem.W.Frag} {ds : DS} {pl : List D} {Φ : W → List D → Prop}
theorem os_notInD {x : D} {xs : List D} {p2 : List D} (h1 : SeqAt.shaped x = true) (h2 : SeqAt.shaped (.list xs) = true) (h : Φ (.d (.bool (!xs.any fun z => PyData.eqv z x))) p2) : OpS c (rNotInD K) ds x (.list xs) p2 Φ := fun G σ H v u hs hv hu Q q =>
  ⟨x, xs, R.dp _ _ (hv.h hs.sub), R.dp _ _ (hu.h hs.sub), h1, h2, q _ G H (.d _) p2 hs (Ex.refl _) (R.bl _) h⟩
/-- a member that is there -/
theorem os_notInY {x : D} {xs : List D} {p2 : List D} (h1 : okD 20 x) (h2 : okD 20 (.list xs)) (hx : x ∈ xs) (h : Φ (.d (.bool false)) p2) : OpS c (rNotInD K) ds x (.list xs) p2 Φ := by
  refine os_notInD (shaped_of h1) (shaped_of h2) ?_
  rw [show (xs.any fun z => PyData.eqv z x) = true from List.any_eq_true.mpr ⟨x, hx, eqv_refl x (fine_of h1).lay⟩]
  exact h
end
end PD

/-! PD76: calls whose arguments are met, ends of lists -/
namespace PD
open PySem PySem.Spec PyProof.Rows L2 Evl
section
variable {c : Cn} {K : PySem.W.Frag} {ds : DS} {pl : List D} {Φ : W → List D → Prop} {tr : TA} {E : XK}
theorem we_detE {A : Type} {enc : A → List D} {pre : A → Prop} {res : A → D} (ha : WA c tr ds pl fun xs p1 => ∃ a, xs = enc a ∧ pre a ∧ Φ (.d (res a)) p1) : WE c (tCall (spP (det enc pre res)) [] E tr) ds pl Φ := we_call (ha.mono fun xs p1 ⟨a, e, p, h⟩ => ⟨a, e, p, h⟩) det_mono
theorem we_relE {A : Type} {enc : A → List D} {pre : A → Prop} {post : A → D → Prop} (ha : WA c tr ds pl fun xs p1 => ∃ a, xs = enc a ∧ pre a ∧ ∀ d, post a d → Φ (.d d) p1) : WE c (tCall (spP (rel enc pre post)) [] E tr) ds pl Φ := we_call (ha.mono fun xs p1 ⟨a, e, p, h⟩ => ⟨a, e, p, h⟩) rel_mono
end
theorem cut_dropD (xs : List D) (k : Nat) : PD.cutD xs (some (k : Int)) none = xs.drop k := by
  unfold PD.cutD
  rw [HT.sIx_nat, HT.sIx_none]
  by_cases h : k ≤ xs.length
  · rw [Nat.min_eq_left h]
    exact List.take_of_length_le (by rw [List.length_drop]; exact Nat.le_refl _)
  · rw [Nat.min_eq_right (by omega), List.drop_length, List.drop_of_length_le (by omega), List.take_nil]
theorem cut_lastD (xs : List D) : PD.cutD xs none (some (-1)) = xs.dropLast := by
  unfold PD.cutD
  have e : HT.sIx xs.length xs.length (some (-1)) = xs.length - 1 := by
    unfold HT.sIx
    simp
    omega
  rw [e, HT.sIx_none, List.dropLast_eq_take]
  rfl
theorem ix_lastD (xs : List D) (x : D) : ixD (.list (xs ++ [x])) (-1) = some x := by
  show atI (xs ++ [x]) (-1) = some x
  unfold atI
  rw [List.length_append, List.length_singleton, ixN_last]
  simp
end PD

/-! PD77: sets of numbers made by a comprehension, sorted, of any length -/
namespace PD
open PySem PySem.Spec PyProof.Rows L2 Evl
/-- what one more number makes of a set's members and of how many they are -/
abbrev stMore (t : (Int → Bool) × Nat) (k : Int) : (Int → Bool) × Nat := (fun j => t.1 j || decide (j = k), if t.1 k = true then t.2 else t.2 + 1)
abbrev stO (w : World) (D : Addr) (t : (Int → Bool) × Nat) : HO := SetO w D t.1 t.2
abbrev st0 : (Int → Bool) × Nat := (fun _ => false, 0)
/-- {e for target in iter if ..}, e a number -/
def tScN (w : World) (wi : TI) (g : TG) (tt : TT) (te : TE) (vs : List Nat) : TE := fun σ H Q => wi σ H fun J HA => ∀ D, HA D = none → ∃ M : Nat → Nat → Hp → Prop, (∃ m, M 0 m (upd HA D (stO w D st0))) ∧ ∀ i m HB, M i m HB →
  (J.stop i HB ∧ Q (.ref D) HB) ∨ (J.go i HB ∧ ∃ N : Hp → Prop, (∀ HC, N HC → ∃ m', m' < m ∧ M (i + 1) m' HC) ∧ ∀ x HC, J.yld i HB x HC → g x (wipe σ vs) HC fun τ HD => wipe τ vs = wipe σ vs ∧ tt τ HD fun b HE =>
    if b = true then te τ HE fun y HF => ∃ (k : Int) (t : (Int → Bool) × Nat), y = .int k ∧ HF D = some (stO w D t) ∧ t.2 + 1 < scanBound ∧ N (upd HF D (stO w D (stMore t k))) else N HE)
section
variable {X : Cx}
theorem addN_ok {pins : List (Addr × Obj)} {σ : L2.St} {H : Hp} {s : Shared} {E : Value → Shared → Prop} {D : Addr} {t : (Int → Bool) × Nat} {k : Int} {tk : Tok} {Q : Value → Shared → Prop} (I : L2.Inv X pins σ H s) (hD : H D = some (stO X.w D t)) (room : t.2 + 1 < scanBound)
    (go : ∀ s', L2.Inv X pins σ (upd H D (stO X.w D (stMore t k))) s' → Q .none s') : wpAny (model X.prog X.w) X.A (call (.builtin "set.add") [.ref D, .int k tk]) Q E s :=
  setR_add (setO_get I hD) room fun hp sb new => go _ (I.write (e := D) (t' := s.toks + 1) (by rw [hD]; trivial) (.inl rfl) (fun b u ne hu => (sb.2 b ne).trans hu) (by have ⟨o, _, _, _, ho, _⟩ := new; exact ⟨o, ho⟩) (setO_new new))
/-- what a turn's end owes: the measure falls, the next place holds -/
theorem turn_end {scope : Scope} {sB : Shared} {HB : Hp} {ce : Env} {fp : List Addr} {σ τ : L2.St} {vs : List Nat} {tn : Nat → Heap → Prop} {tg : Expr} {J : It} {it : Addr} {i n : Nat} {M : Nat → Nat → Hp → Prop} {N : Hp → Prop} {s7 : Shared} (T : Turn X.prog X.w X.K tg J fp it tn)
    (fall : ∀ HC, N HC → ∃ m', m' < n ∧ M (i + 1) m' HC) (same : wipe τ vs = wipe σ vs) (st7 : tn (i + 1) s7.heap) {s8 : Shared} {HC : Hp} (I : L2.Inv (X.blk sB HB scope ce fp) ([] ++ pinsAt fp s7.heap) τ HC s8) (nx : N HC) :
    ∃ m, m < n ∧ ∃ i HC, L2.Inv (X.blk sB HB scope ce fp) [] (wipe σ vs) HC s8 ∧ tn i s8.heap ∧ (∀ b ∈ fp, HC b = none) ∧ M i m HC := by
  obtain ⟨m', lt, at'⟩ := fall HC nx
  have stay : ∀ b ∈ fp, ∀ o, s7.heap.get? b = some o → s8.heap.get? b = some o ∧ HC b = none := fun b hb o e => by
    have z := I.pin (b, o) (List.mem_append_right _ (List.mem_append_right _ (mem_pinsAt hb e)))
    exact ⟨z.1, z.2.1⟩
  have len : (wipe σ vs).length = τ.length := by rw [← same, wipe_length]
  refine ⟨m', lt, i + 1, HC, (I.unpinned (pins := [])).weak len (fun j v e => (wipe_some (by rw [same]; exact e)).1), T.keep _ _ _ st7 fun b hb o e => (stay b hb o e).1, fun b hb => ?_, at'⟩
  obtain ⟨o, e, _⟩ := T.obj _ _ st7 b hb
  exact (stay b hb o e).2
theorem pe_scN {elt tg iter : Expr} {ifs : List Expr} {scope : Scope} {own : List (PySem.Str × Nat)} {pos : Pos} {wi : TI} {g : TG} {tt : TT} {te : TE} (hc : X.calm = true) (hN : X.N.Nodup) (hi : PI X tg iter wi) (ok : BlkOk X.N X.env.scope scope own)
    (hg : ∀ (s : Shared) (H : Hp) (C : Addr) (cl : List (PySem.Str × Addr)) (fp : List Addr), PG (X.blk s H scope (compEnvC scope cl C X.env) fp) tg g)
    (ht : ∀ (s : Shared) (H : Hp) (C : Addr) (cl : List (PySem.Str × Addr)) (fp : List Addr), PTs (X.blk s H scope (compEnvC scope cl C X.env) fp) ifs tt)
    (he : ∀ (s : Shared) (H : Hp) (C : Addr) (cl : List (PySem.Str × Addr)) (fp : List Addr), PE (X.blk s H scope (compEnvC scope cl C X.env) fp) elt te) (hs : ∀ x, foldedSetIterable iter X.env x = pure x := by intro _; rfl) :
    PE X (.SetComp elt [⟨tg, iter, ifs, 0⟩] scope pos) (tScN X.w wi g tt te (own.map (·.2))) := by
  refine ⟨fun pins s σ H Q I want => ?_⟩
  rw [PpSet.eval_SetComp]
  have free : ∀ y ∈ scope.names, y.2 = .free → ∃ c, X.env.cells.lookup y.1 = some c := fun y hy e => by
    rcases ok.free y hy e with k | k
    · exact I.ok.has _ (.inl k)
    · exact I.ok.has _ (.inr k)
  refine wpAny_comprehension_free (use := none) rfl hs (closure_ok free) ok.kind (fun y hy e => by rw [ok.uniq y hy, e]) (thn (hi.run pins s σ H _ I want) fun xv s1 hx => thn hx fun itv s2 h2 => ?_)
  obtain ⟨it, fp, tn, J, HA, e, I2, T, st2, f2, q⟩ := h2
  subst e
  refine PpSet.newSet_ok (newEnv_comp ?_)
  generalize hD : s2.heap.objs.size = D
  have dn : HA D = none := I2.hok.fresh (Nat.le_of_eq hD)
  obtain ⟨M, ⟨m0, w0⟩, turn⟩ := q D dn
  generalize hs3 : ({ s2 with heap := s2.heap.push { cls := .type "set", dict := none, data := .set #[] 0 (.fresh 0 0 (!X.w.params.followText "set-order")) } } : Shared) = s3
  have h3 : s3.heap = s2.heap.push { cls := .type "set", dict := none, data := .set #[] 0 (.fresh 0 0 (!X.w.params.followText "set-order")) } := by rw [← hs3]
  generalize hHB : upd HA D (stO X.w D st0) = HB at w0
  have I3 : L2.Inv X pins σ HB s3 := by
    rw [← hs3, ← hHB]
    refine I2.laid (t' := s2.toks) (fun b o e => Heap.get?_push_of_some _ e) (Nat.le_of_eq hD) ?_
    rw [← hD]
    exact setO_new (setR_fresh X.w)
  have f3 : ∀ b ∈ fp, FpOk X pins HB b ∧ b < s3.heap.objs.size := fun b hb => by
    obtain ⟨o, e, _⟩ := T.obj _ _ st2 b hb
    have lt := Heap.lt_size e
    refine ⟨⟨?_, (f2 b hb).2⟩, by rw [h3, Heap.size_push]; exact Nat.lt_succ_of_lt lt⟩
    rw [← hHB, upd_ne (by rw [← hD]; exact Nat.ne_of_lt lt)]
    exact (f2 b hb).1
  have I4 := block_start I3 ok hN f3
  have pg := hg s3 HB s3.heap.objs.size (cellsFrom (s3.heap.objs.size + 1) scope.names (cloFrom X.env.cells scope.names [])) fp
  have pt := ht s3 HB s3.heap.objs.size (cellsFrom (s3.heap.objs.size + 1) scope.names (cloFrom X.env.cells scope.names [])) fp
  have pe := he s3 HB s3.heap.objs.size (cellsFrom (s3.heap.objs.size + 1) scope.names (cloFrom X.env.cells scope.names [])) fp
  generalize hpost : compPost (model X.prog X.w) X.A X.xe none (fun v s' => ∃ y HC, L2.Inv X pins σ HC s' ∧ RelV y v ∧ Q y HC) (.ref D) s3.heap.objs.size = post
  have leave : ∀ (s' : Shared) (HC : Hp) (m : Str → Option Value), L2.Inv X pins σ HC s' → Q (.ref D) HC → s'.heap.Ns s3.heap.objs.size m → FpOk X pins HC s3.heap.objs.size → post (.ok .next) s' := fun s' HC m I' q hn f => by
    rw [← hpost]
    refine ⟨m, hn, fun hp sb => ?_⟩
    obtain ⟨f0, f1, f2, f3, f4, f5⟩ := f
    exact ⟨.ref D, HC, I'.turned (t' := s'.toks) (fun b o hb e => (sb.2 b hb).trans e) f0 f1 f3 f4 f5, rfl, q⟩
  show codeAny _ _ (.compStart (.SetComp elt [⟨tg, iter, ifs, 0⟩] scope pos) 0 (.ref it) (.ref D) (compEnvC scope (cellsFrom (s3.heap.objs.size + 1) scope.names (cloFrom X.env.cells scope.names [])) s3.heap.objs.size X.env))
    (compPost (model X.prog X.w) X.A X.xe none (fun v s' => ∃ y HC, L2.Inv X pins σ HC s' ∧ RelV y v ∧ Q y HC) (.ref D) s3.heap.objs.size) { s3 with heap := pushCells (s3.heap.push { cls := .type "dict", data := .dict #[] }) scope.names }
  rw [hpost]
  have nf : ∀ b ∈ fp, HB b = none := fun b hb => (f3 b hb).1.1
  generalize hce : compEnvC scope (cellsFrom (s3.heap.objs.size + 1) scope.names (cloFrom X.env.cells scope.names [])) s3.heap.objs.size X.env = ce at I4 pg pt pe ⊢
  have at3 : ce.locals = s3.heap.objs.size := by rw [← hce]; rfl
  have st3 : tn 0 s3.heap := T.keep _ _ _ st2 fun b _ o e => by rw [h3]; exact Heap.get?_push_of_some _ e
  generalize hs4 : ({ s3 with heap := pushCells (s3.heap.push { cls := .type "dict", data := .dict #[] }) scope.names } : Shared) = s4 at I4 ⊢
  have st4 : tn 0 s4.heap := T.keep _ _ _ st3 fun b _ o e => by rw [← hs4]; exact pushCells_keeps _ _ _ _ (Heap.get?_push_of_some _ e)
  have quiet : ∀ {τ : L2.St} {HC : Hp} {s' : Shared}, L2.Inv (X.blk s3 HB scope ce fp) [] τ HC s' → (∀ b ∈ fp, HC b = none) → ∀ b ∈ fp, FpOk (X.blk s3 HB scope ce fp) [] HC b := fun {τ HC s'} I' hn b hb =>
    ⟨hn b hb, (I'.ok.exf b hb).1, I'.ok.exfs b hb, .inl hb, fun x c e => (I'.ok.exf b hb).2 x c e, fun p hp => absurd (show p ∈ ([] : List (Addr × Obj)) ++ [] from hp) (by simp)⟩
  have rounds : codeAny (model X.prog X.w) X.A (.compLoop (.SetComp elt [⟨tg, iter, ifs, 0⟩] scope pos) 0 (.ref it) (.ref D) ce) post s4 := by
    refine PpSet.compLoopS_any (fun n s' => ∃ i HC, L2.Inv (X.blk s3 HB scope ce fp) [] (wipe σ (own.map (·.2))) HC s' ∧ tn i s'.heap ∧ (∀ b ∈ fp, HC b = none) ∧ M i n HC) ?_ m0 ⟨0, HB, I4, st4, nf, w0⟩
    rintro n s5 ⟨i, HC, I5, st5, n5, w5⟩
    rcases turn i n HC w5 with ⟨halt, qq⟩ | ⟨go, N, fall, step⟩
    · refine thnF (T.done (X.blk s3 HB scope ce fp) rfl rfl rfl hc i [] s5 _ HC (fun _ _ => False) I5 (quiet I5 n5) st5 halt) fun r s6 ⟨hr, I6⟩ => ?_
      subst hr
      have nC : HC s3.heap.objs.size = none := by
        have z : HC ce.locals = none := I6.free
        rw [at3] at z
        exact z
      obtain ⟨m, hn, _⟩ := I6.loc
      have hn : s6.heap.Ns ce.locals m := hn
      rw [at3] at hn
      exact leave s6 HC m (I3.call' (ch := fp) I6.os I6.base I6.hok I6.bare fun b hb => ⟨(f3 b hb).1.2.2.2.1, (f3 b hb).1.2.1, (f3 b hb).1.2.2.2.2.1, (f3 b hb).1.2.2.2.2.2⟩) qq hn (I3.fpOk (Nat.le_refl _) nC)
    · refine thnF (T.item (X.blk s3 HB scope ce fp) rfl rfl rfl hc i [] s5 _ HC (fun _ _ => False) I5 (quiet I5 n5) st5 go) fun r s6 ⟨u, hr, h6⟩ => ?_
      subst hr
      refine thnF h6 fun _ s7 ⟨x, H7, I7, r7, y7, st7, n7⟩ => ?_
      refine thnF (pg.run _ s7 _ H7 x u _ (I7.pinned (quiet I7 n7) (T.obj _ _ st7)) r7 (step x H7 y7)) fun _ s8 ⟨τ, H8, I8, same, q8⟩ => ?_
      refine thnF (pt.run _ s8 τ H8 _ I8 q8) fun b s9 ⟨H9, I9, q9⟩ => ?_
      cases b with
      | false =>
        simp only [Bool.false_eq_true, if_false] at q9 ⊢
        exact turn_end T fall same st7 I9 q9
      | true =>
        simp only [if_true] at q9 ⊢
        refine thnF (pe.run _ s9 τ H9 _ I9 q9) fun z s10 ⟨y, H10, I10, r10, k, t, ey, hD10, room, nx⟩ => ?_
        subst ey
        obtain ⟨tk, rfl⟩ : ∃ tk, z = Value.int k tk := r10
        exact addN_ok (X := X.blk s3 HB scope ce fp) I10 hD10 room fun s11 I11 => turn_end T fall same st7 I11 nx
  exact PpSet.codeAny_compStart_set rounds (T.self X.A 0 _ _ _ st4 rounds)
/-- sorted(a set of numbers) -/
def rSortedN (w : World) : List V → Hp → VK → Prop := fun vs H Q => ∃ (a : Addr) (t : (Int → Bool) × Nat), vs = [V.ref a] ∧ H a = some (stO w a t) ∧ t.2 ≤ 100000 ∧
  ∀ (ns : List Int) (p : Addr), ns.Pairwise (· < ·) → (∀ k : Int, k ∈ ns ↔ t.1 k = true) → ns.length = t.2 → H p = none → Q (.ref p) (upd H p (.lst (ns.map V.int)))
theorem keys_nodup {es : List (Int × Value)} {vs : List Value} {ns : List Int} (pm : vs.Perm (es.map (·.2))) (nd : (es.map keyOf).Nodup) (pn : ns.Perm (vs.map Builtin.Re.reRawOf)) : ns.Perm (es.map keyOf) ∧ ns.Nodup := by
  have q : (vs.map Builtin.Re.reRawOf).Perm (es.map keyOf) := by
    have q := pm.map Builtin.Re.reRawOf
    rw [List.map_map] at q
    exact q
  exact ⟨pn.trans q, (pn.trans q).nodup_iff.mpr nd⟩
theorem cr_sortedN (hc : X.calm = true) : CallR X (.builtin "sorted") (rSortedN X.w) := by
  intro pins s σ H vs us Q I r want
  obtain ⟨a, ⟨S, n⟩, rfl, ha, few, q⟩ := want
  have few' : n ≤ 100000 := few
  rw [Vals.ref1 r]
  obtain ⟨o, es, ep, t, ho, hex, hd, g, nd, hm, hb, hf, hn, hr, hl⟩ := (setO_get I ha : SetR X.w s.heap a S n)
  have hh := I.ok.hd hc
  refine PySem.Calls.call_function_entry kind_sorted plain_sorted entry_sorted (args_sorted1 _) ?_
  unfold Builtin.«sorted»
  refine wpAny_bind (m := checkCount "sorted" 1 1 _) (wpAny_pure ?_)
  refine wpAny_bind (collect_set (A := X.A.in1) hh ⟨o, ho, hex.1, hd⟩ hf hb hr hl fun s1 xs k1 hz g1 o1 pm => ?_)
  have many : xs.length = n := by rw [pm.length_eq, List.length_map, Array.length_toList]; exact hn
  have nums : IntsAre xs (xs.map Builtin.Re.reRawOf) := ints_of xs fun v hv => by
    obtain ⟨e, he, z⟩ := List.mem_map.mp (pm.mem_iff.mp hv)
    obtain ⟨k, tk, h1, _⟩ := g e he
    exact ⟨k, tk, by rw [← z]; exact h1⟩
  refine wpAny_bind (wpAny_newList ?_ (by rw [many, sizeLine_eq]; omega))
  have hL : (s1.heap.push (seqObj "list" xs.toArray 0)).get? s1.heap.objs.size = some (seqObj "list" xs.toArray 0) := Heap.get?_push_size _ rfl
  refine wpAny_bind (wpAny_holding (wpAny_call_entry slot_list_sort ⟨_, hL, rfl⟩ entry_list_sort (list_sort_treeAny hL nums (by rw [many, sizeLine_eq]; omega) fun out ns a1 a2 a3 => ⟨_, rfl, ?_⟩) (args_list_sort _)))
  obtain ⟨c, hc2⟩ := sortedHeap_at (vs := xs) (out := out) hL
  obtain ⟨pn, nd2⟩ := keys_nodup pm nd a2
  have len : ns.length = n := by rw [pn.length_eq, List.length_map, Array.length_toList]; exact hn
  have old : ∀ b u, s.heap.get? b = some u → (sortedHeap (s1.heap.push (seqObj "list" xs.toArray 0)) s1.heap.objs.size xs out).get? b = some u := fun b u e => by
    have z := k1 b u e
    have lt := Heap.lt_size z
    rw [sortedHeap_old (Nat.ne_of_lt lt) (by rw [size_push']; exact Nat.lt_succ_of_lt lt)]
    exact Heap.get?_push_of_some _ z
  have hp : H s1.heap.objs.size = none := I.hok.fresh hz
  refine wpAny_pure ⟨_, rfl, .ref s1.heap.objs.size, upd H s1.heap.objs.size (.lst (ns.map V.int)), ?_, rfl, q ns _ (lt_of_le_nodup ns a3 nd2) (fun k => by rw [pn.mem_iff]; exact (hm k).symm) len hp⟩
  have J : L2.Inv X pins σ (upd H s1.heap.objs.size (.lst (ns.map V.int))) { s with heap := sortedHeap (s1.heap.push (seqObj "list" xs.toArray 0)) s1.heap.objs.size xs out, gens := s1.gens, drawn := s1.drawn, toks := s1.toks } :=
    I.call (ch := []) (Un.laid old hz hp) (I.hok.laid old hz ⟨by rw [List.length_map, len, sizeLine_eq]; omega, out.toList, c, vals_of_ints a1, hc2⟩) (by rw [g1]; exact I.bare) (fun _ z => nomatch z)
  have e : ({ s1 with heap := sortedHeap (s1.heap.push (seqObj "list" xs.toArray 0)) s1.heap.objs.size xs out } : Shared) = { s with heap := sortedHeap (s1.heap.push (seqObj "list" xs.toArray 0)) s1.heap.objs.size xs out, gens := s1.gens, drawn := s1.drawn, toks := s1.toks } := by
    cases s1
    cases s
    cases o1
    rfl
  first | exact J | (rw [← e] at J; exact J)
end
section
variable {c : Cn} {K : PySem.W.Frag} {ds : DS} {pl : List D} {Φ : W → List D → Prop} {te tl : TE} {tt : TT} {σ : L2.St} {j : Nat} {w : World}
def PvS (w : World) (c : Cn) (σ : L2.St) (ds : DS) (G1 : Hp) (Dl : Addr) (J : Nat → (Int → Bool) × Nat → List D → Prop) (i : Nat) (H' : Hp) : Prop :=
  ∃ G' pl' t, HS c G' σ H' ds pl' ∧ Ex G1 G' ∧ H' Dl = some (stO w Dl t) ∧ G' Dl = none ∧ J i t pl'
/-- sorted({e for x in xs if t}) -/
theorem we_sortedSc (J : Nat → (Int → Bool) × Nat → List D → Prop) (xs : List D) (no : Nod ds) (h : WE c tl ds pl (isD fun d p1 => d = .list xs ∧ J 0 st0 p1))
    (user : ∀ (i : Nat) x t pl', xs[i]? = some x → J i t pl' → ∀ c' : Cn, (∀ p o, c.pin p = some o → c'.pin p = some o) → WT c' tt ((wipeD ds [j]).set j (some (.d x))) pl' fun b p2 => if b = true then WE c' te ((wipeD ds [j]).set j (some (.d x))) p2
      (isD fun y p3 => ∃ k : Int, y = .int k ∧ t.2 + 1 < scanBound ∧ J (i + 1) (stMore t k) p3) else J (i + 1) t p2)
    (hq : ∀ t pl', J xs.length t pl' → t.2 ≤ 100000 ∧ ∀ ns : List Int, ns.Pairwise (· < ·) → (∀ k : Int, k ∈ ns ↔ t.1 k = true) → ns.length = t.2 → Φ (.d (.list (ns.map PyData.int))) pl') :
    WE c (tCB (rSortedN w) (tCons (tScN w (iList K tl) (gName j) tt te [j]) tNil)) ds pl Φ := fun G σ H h0 Q q => h G σ H h0 _ fun v G1 H1 z p1 h1 e1 f1 g1 => by
  match z, f1, g1 with
  | .d d, f1, ⟨ed, g1⟩ =>
    subst ed
    cases f1 with
    | @lst a us _ a1 b1 =>
    refine ⟨a, rfl, ⟨us, SqL.of (h1.sub _ _ a1)⟩, fun Dl hD => ?_⟩
    have f := df_new h1 hD
    have len := b1.len
    refine ⟨fun i m H' => m = us.length - i ∧ i ≤ us.length ∧ PvS w c σ ds G1 Dl J i H', ⟨us.length, by simp, Nat.zero_le _, G1, p1, st0, h1.newH hD, Ex.refl _, upd_same, (h1.none_of hD).1, g1⟩, ?_⟩
    rintro i m H' ⟨rfl, hi, pv⟩
    obtain ⟨G', pl', t, h2, e2, hD2, gD, hJ⟩ := id pv
    have sq : SqL K H' a us := SqL.of (h2.sub _ _ (e2 _ _ a1))
    by_cases hlt : i < us.length
    · refine .inr ⟨⟨us, us[i], sq, by simp [hlt]⟩, PvS w c σ ds G1 Dl J (i + 1), fun H3 q => ⟨us.length - (i + 1), by omega, rfl, hlt, q⟩, ?_⟩
      rintro x H3 ⟨rfl, y⟩
      obtain ⟨d1, hd1, hr1⟩ := b1.get' (y us sq)
      refine ⟨wipe_set σ j x, ?_⟩
      have hw := (h2.wipe [j]).set (i := j) (w := .d d1) (R.up hr1 e2) fun xs z => by cases z
      have nod := (no.wipe [j]).set j d1
      refine user i d1 t pl' hd1 hJ (c.with Dl (stO w Dl t)) (fun p o e => by rw [with_ne (fun z : p = Dl => by rw [z, f.pin] at e; cases e)]; exact e) G' _ H3 (hw.to_with (nod.df f) hD2 gD) _ fun b G3 H5 p2 h3 e3 g2 => ?_
      cases b with
      | true =>
        refine (show WE _ te _ p2 _ from g2) G3 _ H5 h3 _ fun y G4 H6 u p3 h4 e4 f4 g3 => ?_
        match u, f4, g3 with
        | .d e, f4, ⟨k, ez, g5, g6⟩ =>
          subst ez
          have f4' : R G4 y (.int k) := f4
          cases f4'
          have b3 := h2.back f h4 (e3.trans e4) (fun i' xs' q => absurd q (no i' xs'))
          have dD : G4 Dl = none := h4.gn Dl _ with_at
          exact ⟨k, t, rfl, h4.pin Dl _ with_at, g5, G4, p3, stMore t k, b3.push f dD, e2.trans (e3.trans e4), upd_same, dD, g6⟩
      | false =>
        exact ⟨G3, p2, t, h2.back f h3 e3 (fun i' xs' q => absurd q (no i' xs')), e2.trans e3, h3.pin Dl _ with_at, h3.gn Dl _ with_at, g2⟩
    · have ei : i = us.length := by omega
      subst ei
      rw [len] at hJ
      obtain ⟨few, fin⟩ := hq t pl' hJ
      refine .inl ⟨⟨us, sq, Nat.le_refl _⟩, Dl, t, rfl, hD2, few, fun ns p up mem cnt hp => ?_⟩
      have n2 := h2.none_of hp
      exact q (.ref p) (upd G' p (.lst (ns.map V.int))) _ (.d (.list (ns.map PyData.int))) pl' (h2.newD hp) (e1.trans (e2.trans (Ex.new n2.1))) (R.lst upd_same (RA.of_ints ns)) (fin ns up mem cnt)
/-- list(d), d a dict of numbers that is kept -/
theorem we_listDK {i : Nat} {p : Addr} {tb : List (Int × Int)} (hi : ds[i]? = some (some (.v (.ref p)))) (hp : c.pin p = some (.dK (vsI tb))) (h : Φ (.d (.list ((tb.map (·.1)).map PyData.int))) pl) : WE c (tCB rListD (tCons (tVar i) tNil)) ds pl Φ := fun G σ H hs Q q => by
  obtain ⟨v, z1, z2⟩ := hs.slots i _ hi
  have z2' : v = .ref p := z2
  subst z2'
  refine ⟨_, z1, p, vsI tb, rfl, hs.pin _ _ hp, fun l hl => ?_⟩
  have n2 := hs.none_of hl
  have e : ((vsI tb).map fun kv => kV kv.1) = (tb.map (·.1)).map V.int := by
    unfold vsI
    rw [List.map_map, List.map_map]
    rfl
  rw [e]
  exact q (.ref l) (upd G l (.lst ((tb.map (·.1)).map V.int))) _ (.d (.list ((tb.map (·.1)).map PyData.int))) pl (hs.newD hl) (Ex.new n2.1) (R.lst upd_same (RA.of_ints _)) h
/-- an entry of a dict of numbers that is kept -/
theorem we_dgetP {id : Nat} {p : Addr} {tb : List (Int × Int)} {k x : Int} (nd : (tb.map (·.1)).Nodup) (hp : c.pin p = some (.dK (vsI tb))) (hid : ds[id]? = some (some (.v (.ref p)))) (hj : ds[j]? = some (some (.d (.int k)))) (hx : (k, x) ∈ tb) (h : Φ (.d (.int x)) pl) :
    WE c (tDGet (tVar id) (tVar j)) ds pl Φ := fun G σ H h0 Q q => by
  obtain ⟨v, z1, z2⟩ := h0.slots id _ hid
  have z2' : v = .ref p := z2
  subst z2'
  obtain ⟨u, y1, y2⟩ := h0.slots j _ hj
  have y2' : R G u (.int k) := y2
  cases y2'
  refine ⟨_, z1, _, y1, p, .int x, rfl, ?_, q _ G H (.d (.int x)) pl h0 (Ex.refl _) (R.int x) h⟩
  exact .inl ⟨_, .inl k, .inl (h0.pin _ _ hp), rfl, (vsI_some nd hx).symm⟩
end
end PD

/-! PD78: heights that last, and how soon only these are left -/
namespace PD
open PySem PySem.Spec PyProof.Rows L2 Evl
/-- members of one list without repeats are those of another that is no longer -/
theorem perm_of_sub : ∀ {S T : List Int}, S.Nodup → (∀ x ∈ S, x ∈ T) → T.length ≤ S.length → T.Perm S
  | [], T, _, _, h => by
    have : T = [] := List.length_eq_zero_iff.mp (Nat.le_zero.mp h)
    rw [this]
  | a :: S, T, nd, sub, h => by
    have ha : a ∈ T := sub a List.mem_cons_self
    rw [List.nodup_cons] at nd
    have p := List.perm_cons_erase ha
    have l := p.length_eq
    rw [List.length_cons] at l h
    refine p.trans (List.Perm.cons a (perm_of_sub nd.2 (fun x hx => ?_) (by omega)))
    have ne : x ≠ a := fun e => nd.1 (e ▸ hx)
    exact (List.mem_erase_of_ne ne).mpr (sub x (List.mem_cons_of_mem _ hx))
theorem len_of_sub : ∀ {S T : List Int}, S.Nodup → (∀ x ∈ S, x ∈ T) → S.length ≤ T.length
  | [], _, _, _ => Nat.zero_le _
  | a :: S, T, nd, sub => by
    have ha : a ∈ T := sub a List.mem_cons_self
    rw [List.nodup_cons] at nd
    have p := List.perm_cons_erase ha
    have l := p.length_eq
    have := len_of_sub (S := S) (T := T.erase a) nd.2 fun x hx => by
      have ne : x ≠ a := fun e => nd.1 (e ▸ hx)
      exact (List.mem_erase_of_ne ne).mpr (sub x (List.mem_cons_of_mem _ hx))
    rw [List.length_cons] at l ⊢
    omega
/-- ascending lists with the same members are one -/
theorem up_uniq : ∀ {S T : List Int}, S.Pairwise (· < ·) → T.Pairwise (· < ·) → (∀ x, x ∈ S ↔ x ∈ T) → S = T
  | [], [], _, _, _ => rfl
  | [], b :: T, _, _, h => absurd ((h b).mpr List.mem_cons_self) (by simp)
  | a :: S, [], _, _, h => absurd ((h a).mp List.mem_cons_self) (by simp)
  | a :: S, b :: T, hs, ht, h => by
    obtain ⟨s1, s2⟩ := List.pairwise_cons.mp hs
    obtain ⟨t1, t2⟩ := List.pairwise_cons.mp ht
    have e : a = b := by
      rcases List.mem_cons.mp ((h a).mp List.mem_cons_self) with e | e
      · exact e
      · rcases List.mem_cons.mp ((h b).mpr List.mem_cons_self) with e2 | e2
        · exact e2.symm
        · have := t1 a e
          have := s1 b e2
          omega
    subst e
    rw [up_uniq s2 t2 fun x => ?_]
    constructor
    · intro hx
      rcases List.mem_cons.mp ((h x).mp (List.mem_cons_of_mem _ hx)) with e | e
      · have := s1 x hx
        omega
      · exact e
    · intro hx
      rcases List.mem_cons.mp ((h x).mpr (List.mem_cons_of_mem _ hx)) with e | e
      · have := t1 x hx
        omega
      · exact e
theorem up_nd {S : List Int} (h : S.Pairwise (· < ·)) : S.Nodup := List.nodup_iff_pairwise_ne.mpr (h.imp fun a e => by omega)
theorem heldN_up (v : Dv) (arm : Int) (n : Nat) : (heldN v arm n).Pairwise (· < ·) := by
  unfold heldN
  refine List.Pairwise.filter _ (List.pairwise_map.mpr ?_)
  exact List.pairwise_lt_range.imp fun h => by omega
def gk (v : Dv) (ms : List Int) (arm : Int) (k : Nat) (x : Int) : Int := hx v ms arm x k % lcmV v
def imgL (v : Dv) (ms : List Int) (arm : Int) (xs : List Int) : List Int := (heldL v arm).filter fun y => xs.any fun x => decide (gk v ms arm 1 x = y)
def setl (v : Dv) (ms : List Int) (arm : Int) : Nat → List Int
  | 0 => heldL v arm
  | k + 1 => imgL v ms arm (setl v ms arm k)
structure Settle (v : Dv) (ms : List Int) (arm : Int) (k : Nat) : Prop where
  same : (setl v ms arm (k + 1)).length = (setl v ms arm k).length
  less : ∀ j, j < k → (setl v ms arm (j + 1)).length < (setl v ms arm j).length
section
variable {v : Dv} {ms : List Int} {arm : Int}
theorem held_rem (ok : v.Ok) {h : Int} (hh : held v (h, arm) = true) : h % lcmV v ∈ heldL v arm := by
  obtain ⟨cm, _⟩ := com_lcmV ok
  have L0 := cm.pos
  have m1 := Int.emod_nonneg h (show lcmV v ≠ 0 by omega)
  have m2 := Int.emod_lt_of_pos h L0
  have p := cm.plc (h % lcmV v) arm (h / lcmV v)
  rw [Int.emod_add_mul_ediv] at p
  exact heldN_mem.mpr ⟨m1, by omega, (plc_held p).trans hh⟩
theorem heldL_rem (ok : v.Ok) {x : Int} (h : x ∈ heldL v arm) : x % lcmV v = x := by
  obtain ⟨cm, _⟩ := com_lcmV ok
  have L0 := cm.pos
  obtain ⟨h1, h2, _⟩ := heldN_mem.mp h
  exact Int.emod_eq_of_lt h1 (by omega)
theorem gk_rem (ok : v.Ok) (k : Nat) (y : Int) : gk v ms arm k (y % lcmV v) = gk v ms arm k y := by
  obtain ⟨cm, _⟩ := com_lcmV ok
  have p := cm.plc (y % lcmV v) arm (y / lcmV v)
  rw [Int.emod_add_mul_ediv] at p
  have e : hx v ms arm y k = hx v ms arm (y % lcmV v) k + (y - y % lcmV v) := congrArg Prod.fst (rp_shift ok ms p k)
  have d := Int.emod_add_mul_ediv y (lcmV v)
  unfold gk
  rw [e, show y - y % lcmV v = lcmV v * (y / lcmV v) by omega, Int.add_mul_emod_self_left]
theorem gk_add (ok : v.Ok) (s0 : ms.sum = 0) (i k : Nat) (x : Int) : gk v ms arm (i + k) x = gk v ms arm k (gk v ms arm i x) := by
  have e := hx_add (v := v) (palm := arm) s0 x i k
  show hx v ms arm x (i + k) % lcmV v = gk v ms arm k (hx v ms arm x i % lcmV v)
  rw [gk_rem ok, e]
  rfl
theorem gk_held (ok : v.Ok) (s0 : ms.sum = 0) {x : Int} (h : x ∈ heldL v arm) (k : Nat) : gk v ms arm k x ∈ heldL v arm := by
  have hh := rp_held ok ms (heldN_mem.mp h).2.2 k
  rw [hx_eta s0] at hh
  exact held_rem ok hh
theorem gk_zero (ok : v.Ok) {x : Int} (h : x ∈ heldL v arm) : gk v ms arm 0 x = x := heldL_rem ok h
theorem mem_imgL {xs : List Int} {y : Int} : y ∈ imgL v ms arm xs ↔ y ∈ heldL v arm ∧ ∃ x ∈ xs, gk v ms arm 1 x = y := by
  unfold imgL
  rw [List.mem_filter, List.any_eq_true]
  simp only [decide_eq_true_eq]
theorem mem_setl (ok : v.Ok) (s0 : ms.sum = 0) : ∀ {k : Nat} {y : Int}, y ∈ setl v ms arm k ↔ ∃ x ∈ heldL v arm, gk v ms arm k x = y
  | 0, y => ⟨fun h => ⟨y, h, gk_zero ok h⟩, fun ⟨x, hx, e⟩ => by rw [gk_zero ok hx] at e; rw [← e]; exact hx⟩
  | k + 1, y => by
    show y ∈ imgL v ms arm (setl v ms arm k) ↔ _
    rw [mem_imgL]
    constructor
    · rintro ⟨_, z, hz, e⟩
      obtain ⟨x, hx, e2⟩ := (mem_setl ok s0).mp hz
      exact ⟨x, hx, by rw [gk_add ok s0, e2]; exact e⟩
    · rintro ⟨x, hx, e⟩
      rw [gk_add ok s0] at e
      exact ⟨by rw [← e, ← gk_add ok s0]; exact gk_held ok s0 hx _, gk v ms arm k x, (mem_setl ok s0).mpr ⟨x, hx, rfl⟩, e⟩
theorem setl_sub (ok : v.Ok) (s0 : ms.sum = 0) {k : Nat} {y : Int} (h : y ∈ setl v ms arm (k + 1)) : y ∈ setl v ms arm k := by
  obtain ⟨x, hx, e⟩ := (mem_setl ok s0).mp h
  rw [Nat.add_comm, gk_add ok s0] at e
  exact (mem_setl ok s0).mpr ⟨_, gk_held ok s0 hx 1, e⟩
theorem setl_up : ∀ k : Nat, (setl v ms arm k).Pairwise (· < ·)
  | 0 => heldN_up _ _ _
  | k + 1 => List.Pairwise.filter _ (heldN_up _ _ _)
theorem setl_held (ok : v.Ok) (s0 : ms.sum = 0) {k : Nat} {y : Int} (h : y ∈ setl v ms arm k) : y ∈ heldL v arm := by
  obtain ⟨x, hx, rfl⟩ := (mem_setl ok s0).mp h
  exact gk_held ok s0 hx k
theorem setl_ne (ok : v.Ok) (s0 : ms.sum = 0) (k : Nat) : setl v ms arm k ≠ [] := fun e => by
  have ne := heldL_ne ok arm
  cases h : heldL v arm with
  | nil => exact ne h
  | cons x r =>
    have := (mem_setl (ms := ms) (arm := arm) ok s0 (k := k)).mpr ⟨x, by rw [h]; exact List.mem_cons_self, rfl⟩
    rw [e] at this
    cases this
theorem setl_len (ok : v.Ok) (s0 : ms.sum = 0) (k : Nat) : (setl v ms arm (k + 1)).length ≤ (setl v ms arm k).length := len_of_sub (up_nd (setl_up _)) fun x hx => setl_sub ok s0 hx
/-- what comes again is there at all times -/
theorem again_in (ok : v.Ok) (s0 : ms.sum = 0) {y : Int} (hy : y ∈ heldL v arm) {p : Nat} (p0 : 0 < p) (e : gk v ms arm p y = y) (k : Nat) : y ∈ setl v ms arm k := by
  have many : ∀ m : Nat, gk v ms arm (p * m) y = y := fun m => by
    induction m with
    | zero => exact gk_zero ok hy
    | succ m ih => rw [Nat.mul_succ, gk_add ok s0, ih, e]
  have le : k ≤ p * k := Nat.le_mul_of_pos_left k p0
  refine (mem_setl ok s0).mpr ⟨gk v ms arm (p * k - k) y, gk_held ok s0 hy _, ?_⟩
  rw [← gk_add ok s0, Nat.sub_add_cancel le, many]
section
variable {K : Nat} (ok : v.Ok) (s0 : ms.sum = 0) (st : Settle v ms arm K)
include ok s0 st
theorem Settle.perm : ((setl v ms arm K).map (gk v ms arm 1)).Perm (setl v ms arm K) := by
  refine perm_of_sub (up_nd (setl_up K)) (fun x hx => ?_) (by rw [List.length_map]; exact Nat.le_refl _)
  have p := perm_of_sub (up_nd (setl_up (K + 1))) (fun y hy => setl_sub ok s0 hy) (Nat.le_of_eq st.same.symm)
  obtain ⟨_, z, hz, e⟩ := mem_imgL.mp (p.mem_iff.mp hx)
  exact List.mem_map.mpr ⟨z, hz, e⟩
theorem Settle.into {x : Int} (h : x ∈ setl v ms arm K) : ∀ k : Nat, gk v ms arm k x ∈ setl v ms arm K
  | 0 => by rw [gk_zero ok (setl_held ok s0 h)]; exact h
  | k + 1 => by
    rw [gk_add ok s0]
    exact (Settle.perm ok s0 st).mem_iff.mp (List.mem_map.mpr ⟨_, Settle.into h k, rfl⟩)
theorem Settle.inj1 {x y : Int} (h1 : x ∈ setl v ms arm K) (h2 : y ∈ setl v ms arm K) (e : gk v ms arm 1 x = gk v ms arm 1 y) : x = y := by
  have nd : ((setl v ms arm K).map (gk v ms arm 1)).Nodup := (Settle.perm ok s0 st).nodup_iff.mpr (up_nd (setl_up K))
  obtain ⟨i, hi, rfl⟩ := List.mem_iff_getElem.mp h1
  obtain ⟨j, hj, rfl⟩ := List.mem_iff_getElem.mp h2
  have e2 : ((setl v ms arm K).map (gk v ms arm 1))[i]'(by rw [List.length_map]; exact hi) = ((setl v ms arm K).map (gk v ms arm 1))[j]'(by rw [List.length_map]; exact hj) := by
    rw [List.getElem_map, List.getElem_map]; exact e
  have := (List.getElem_inj nd).mp e2
  subst this
  rfl
theorem Settle.inj {x y : Int} (h1 : x ∈ setl v ms arm K) (h2 : y ∈ setl v ms arm K) : ∀ k : Nat, gk v ms arm k x = gk v ms arm k y → x = y
  | 0, e => by rw [gk_zero ok (setl_held ok s0 h1), gk_zero ok (setl_held ok s0 h2)] at e; exact e
  | k + 1, e => by
    rw [gk_add ok s0, gk_add ok s0] at e
    exact Settle.inj h1 h2 k (Settle.inj1 ok s0 st (Settle.into ok s0 st h1 k) (Settle.into ok s0 st h2 k) e)
theorem Settle.again {x : Int} (h : x ∈ setl v ms arm K) : ∃ p, 0 < p ∧ gk v ms arm p x = x := by
  obtain ⟨n, j, cy⟩ := cyc_ex (v := v) (ms := ms) (s := (x, arm)) ok
  have lt := cy.lt
  have e := cy.eq
  rw [hx_eta s0, hx_eta s0] at e
  obtain ⟨cm, lc⟩ := com_lcmV ok
  have ap := plc_apart lc e
  have e2 : gk v ms arm n x = gk v ms arm j x := Int.emod_eq_emod_iff_emod_sub_eq_zero.mpr ap
  refine ⟨n - j, by omega, ?_⟩
  rw [show n = (n - j) + j by omega, gk_add ok s0] at e2
  exact Settle.inj ok s0 st (Settle.into ok s0 st h _) h j e2
end
theorem plc_gk (ok : v.Ok) (s0 : ms.sum = 0) {x y : Int} {i k : Nat} : gk v ms arm i x = gk v ms arm k y ↔ plc v (rp v ms (x, arm) i) = plc v (rp v ms (y, arm) k) := by
  rw [hx_eta s0, hx_eta s0]
  obtain ⟨cm, lc⟩ := com_lcmV ok
  constructor
  · intro e
    have e' : hx v ms arm x i % lcmV v = hx v ms arm y k % lcmV v := e
    have p := cm.plc (hx v ms arm x i % lcmV v) arm (hx v ms arm x i / lcmV v)
    have q := cm.plc (hx v ms arm y k % lcmV v) arm (hx v ms arm y k / lcmV v)
    rw [Int.emod_add_mul_ediv] at p q
    rw [← p, ← q, e']
  · intro e
    have ap := plc_apart lc e.symm
    exact Int.emod_eq_emod_iff_emod_sub_eq_zero.mpr ap
/-- nothing is ahead of the cycle just of those that last -/
theorem last_iff {K n j : Nat} (ok : v.Ok) (s0 : ms.sum = 0) (st : Settle v ms arm K) {x : Int} (hx : x ∈ heldL v arm) (cy : Cyc v ms (x, arm) n j) : j = 0 ↔ x ∈ setl v ms arm K := by
  constructor
  · intro e
    subst e
    have e2 := (plc_gk ok s0).mpr cy.eq
    rw [gk_zero ok hx] at e2
    exact again_in ok s0 hx cy.lt e2.symm K
  · intro h
    obtain ⟨p, p0, e⟩ := Settle.again ok s0 st h
    have e2 : gk v ms arm 0 x = gk v ms arm p x := by rw [gk_zero ok hx, e]
    obtain ⟨n', _, cy'⟩ := cyc_back ok p0 ((plc_gk ok s0).mp e2)
    exact (cy.uniq cy').2
theorem ahead_le {K n j : Nat} (ok : v.Ok) (s0 : ms.sum = 0) (st : Settle v ms arm K) {x : Int} (hx : x ∈ heldL v arm) (cy : Cyc v ms (x, arm) n j) : j ≤ K := by
  have lt := cy.lt
  have h : gk v ms arm K x ∈ setl v ms arm K := (mem_setl ok s0).mpr ⟨x, hx, rfl⟩
  obtain ⟨p, p0, e⟩ := Settle.again ok s0 st h
  rw [← gk_add ok s0] at e
  have e2 := (plc_gk ok s0).mp e
  apply Classical.byContradiction
  intro no
  have kj : K < j := by omega
  by_cases far : K + p < n
  · exact cy.inj K (K + p) (by omega) far e2.symm
  · obtain ⟨i, q, i1, i2, _⟩ := cy.part ok (K + p) (by omega)
    have pe := cy.per ok (x := j + i) (by omega) q
    rw [← i2, e2] at pe
    exact cy.inj K (j + i) (by omega) (by omega) pe
theorem ahead_ex {K : Nat} (ok : v.Ok) (s0 : ms.sum = 0) (st : Settle v ms arm K) : ∃ x ∈ heldL v arm, ∃ n, Cyc v ms (x, arm) n K := by
  have ne := heldL_ne ok arm
  have one : ∃ x, x ∈ heldL v arm := by
    cases h : heldL v arm with
    | nil => exact absurd h ne
    | cons x r => exact ⟨x, List.mem_cons_self⟩
  cases K with
  | zero =>
    obtain ⟨x, hx⟩ := one
    obtain ⟨n, j, cy⟩ := cyc_ex (v := v) (ms := ms) (s := (x, arm)) ok
    have := ahead_le ok s0 st hx cy
    have e : j = 0 := by omega
    subst e
    exact ⟨x, hx, n, cy⟩
  | succ K =>
    have lt := st.less K (Nat.lt_succ_self K)
    have ex : ∃ y, y ∈ setl v ms arm K ∧ ¬ y ∈ setl v ms arm (K + 1) := by
      apply Classical.byContradiction
      intro no
      have := len_of_sub (up_nd (setl_up (v := v) (ms := ms) (arm := arm) K)) fun y hy => Classical.byContradiction fun z => no ⟨y, hy, z⟩
      omega
    obtain ⟨y, h1, h2⟩ := ex
    obtain ⟨x, hx, e⟩ := (mem_setl ok s0).mp h1
    obtain ⟨n, j, cy⟩ := cyc_ex (v := v) (ms := ms) (s := (x, arm)) ok
    have le := ahead_le ok s0 st hx cy
    have clt := cy.lt
    have ge : K < j := by
      apply Classical.byContradiction
      intro no
      have pe := cy.per ok (x := K) (by omega) 1
      have e3 := (plc_gk (arm := arm) ok s0).mpr pe
      rw [Nat.mul_one, gk_add ok s0, e] at e3
      exact h2 (again_in ok s0 (by rw [← e]; exact gk_held ok s0 hx K) (by omega) e3 _)
    have ej : j = K + 1 := by omega
    subst ej
    exact ⟨x, hx, n, cy⟩
theorem stuck_last {x : Int} (ok : v.Ok) (s0 : ms.sum = 0) (h : x ∈ stuckL v arm ms) (K : Nat) : x ∈ setl v ms arm K := by
  unfold stuckL at h
  rw [List.mem_filter] at h
  refine again_in ok s0 h.1 (p := 1) (by decide) ?_ K
  have e : hx v ms arm x 1 = x := of_decide_eq_true h.2
  show hx v ms arm x 1 % lcmV v = x
  rw [e]
  exact heldL_rem ok h.1
theorem stuck_cyc {x : Int} {n j : Nat} (ok : v.Ok) (s0 : ms.sum = 0) (hh : x ∈ heldL v arm) (cy : Cyc v ms (x, arm) n j) : (j = 0 ∧ n = 1 ∧ (rp v ms (x, arm) n).1 - (rp v ms (x, arm) j).1 = 0) ↔ x ∈ stuckL v arm ms := by
  unfold stuckL
  rw [List.mem_filter, decide_eq_true_eq]
  constructor
  · rintro ⟨rfl, rfl, e⟩
    refine ⟨hh, ?_⟩
    have e' : (mvs v (x, arm) ms).1 - x = 0 := e
    omega
  · rintro ⟨_, e⟩
    have e2 : rp v ms (x, arm) 1 = (x, arm) := by rw [hx_eta s0]; exact Prod.ext e rfl
    have c1 : Cyc v ms (x, arm) 1 0 := ⟨by decide, by rw [e2]; rfl, fun i k h1 h2 => by omega⟩
    obtain ⟨rfl, rfl⟩ := cy.uniq c1
    exact ⟨rfl, rfl, by rw [e2]; show x - x = 0; omega⟩
theorem stuck_mean {t b : Int} (ok : v.Ok) (mn : Mean v ms arm t b) (s0 : ms.sum = 0) (h : stuckL v arm ms ≠ []) : t = 0 ∧ b = 1 := by
  cases q : stuckL v arm ms with
  | nil => exact absurd q h
  | cons x r =>
    have hx : x ∈ stuckL v arm ms := by rw [q]; exact List.mem_cons_self
    unfold stuckL at hx
    rw [List.mem_filter, decide_eq_true_eq] at hx
    have e2 : rp v ms (x, arm) 1 = (x, arm) := by rw [hx_eta s0]; exact Prod.ext hx.2 rfl
    obtain ⟨m1, m2⟩ := mn.told ok (y := x) (k := 1) (by decide) (by rw [e2])
    have b0 := mn.b0
    rw [e2] at m1
    have m1' : (x - x) * b = t * 1 := m1
    rw [Int.sub_self, Int.zero_mul, Int.mul_one] at m1'
    have m2' : b ≤ 1 := m2
    exact ⟨m1'.symm, by omega⟩
end
end PD

/-! PD79: settling is told once -/
namespace PD
open PySem PySem.Spec PyProof.Rows L2 Evl
theorem Settle.uniq {v : Dv} {ms : List Int} {arm : Int} {a b : Nat} (h : Settle v ms arm a) (g : Settle v ms arm b) : a = b := by
  rcases Nat.lt_trichotomy a b with z | z | z
  · have := g.less a z
    have := h.same
    omega
  · exact z
  · have := h.less b z
    have := g.same
    omega
end PD

/-! PD80: rounds begun elsewhere -/
namespace PD
open PySem PySem.Spec PyProof.Rows L2 Evl
section
variable {v : Dv} {ms : List Int} {arm t b t' b' : Int}
theorem rp_same {ms ms' : List Int} (e : ∀ s, mvs v s ms = mvs v s ms') (s : Sv) : ∀ k : Nat, rp v ms s k = rp v ms' s k
  | 0 => rfl
  | k + 1 => by show mvs v (rp v ms s k) ms = mvs v (rp v ms' s k) ms'; rw [rp_same e s k, e]
theorem Mean.same {ms' : List Int} (e : ∀ s, mvs v s ms = mvs v s ms') (m : Mean v ms arm t b) : Mean v ms' arm t b := by
  refine ⟨m.t0, m.b0, m.b5, m.low, fun a n j cy => ?_⟩
  have r := rp_same e (a, arm)
  have cy' : Cyc v ms (a, arm) n j := ⟨cy.lt, by rw [r, r]; exact cy.eq, fun i k h1 h2 => by rw [r, r]; exact cy.inj i k h1 h2⟩
  have := m.eq a n j cy'
  rw [r, r] at this
  exact this
theorem joined_sum (ok : v.Ok) {ms : List Int} (h : ∀ x ∈ ms, x ≠ 0) : (joined ms).sum = ms.sum := by
  have e := congrArg Prod.snd (mvs_joined ok ms ((0, 0) : Sv) h)
  rw [mvs_hand, mvs_hand] at e
  omega
theorem joined_ne {ms : List Int} (h : ms ≠ []) : joined ms ≠ [] := fun e => by
  have sp := (List.dropLast_concat_getLast h).symm
  rw [sp, joined_snoc] at e
  unfold joinR at e
  split at e
  · exact absurd e (by simp)
  · exact absurd e (by simp)
theorem mvs_two (ok : v.Ok) {x y : Int} (h : 0 < x ∧ 0 < y ∨ x < 0 ∧ y < 0) (s : Sv) : mvs v s [x, y] = mvs v s [x + y] := by
  have e := mvs_joined ok [x, y] s (fun z hz => by
    simp only [List.mem_cons, List.not_mem_nil, or_false] at hz
    rcases hz with e | e <;> omega)
  have j : joined [x, y] = [x + y] := by
    show joinR (joinR [] x) y = _
    have e1 : joinR [] x = [x] := rfl
    rw [e1]
    unfold joinR
    rw [if_pos ⟨by simp, by
      show decide (0 < x) = decide (0 < y)
      rcases h with h | h
      · rw [decide_eq_true h.1, decide_eq_true h.2]
      · rw [decide_eq_false (by omega), decide_eq_false (by omega)]⟩]
    rfl
  rw [j] at e
  exact e.symm
theorem mvs_part (ok : v.Ok) {x y : Int} (h : 0 < x ∧ 0 < y ∨ x < 0 ∧ y < 0) (a c : List Int) (s : Sv) : mvs v s (a ++ (x + y) :: c) = mvs v s (a ++ x :: y :: c) := by
  rw [mvs_app, mvs_app, show (x + y) :: c = [x + y] ++ c from rfl, show x :: y :: c = [x, y] ++ c from rfl, mvs_app, mvs_app v _ [x, y], mvs_two ok h]
theorem rp_twice (v : Dv) (ms : List Int) (s : Sv) : ∀ k : Nat, rp v (ms ++ ms) s k = rp v ms s (2 * k)
  | 0 => rfl
  | k + 1 => by
    show mvs v (rp v (ms ++ ms) s k) (ms ++ ms) = mvs v (mvs v (rp v ms s (2 * k)) ms) ms
    rw [rp_twice, mvs_app]
/-- a place of a cycle comes again, higher by its rise -/
theorem cyc_place (ok : v.Ok) (s0 : ms.sum = 0) (m : Mean v ms arm t b) : ∃ (y r : Int) (p : Nat), 0 < p ∧ plc v (y, arm) = plc v (rp v ms (y, arm) p) ∧ (rp v ms (y, arm) p).1 = y + r ∧ t * (p : Int) = b * r := by
  obtain ⟨n, j, cy⟩ := cyc_ex (v := v) (ms := ms) (s := ((0 : Int), arm)) ok
  have lt := cy.lt
  have e := m.eq 0 n j cy
  have eq := cy.eq
  have spl : rp v ms (0, arm) n = rp v ms (rp v ms (0, arm) j) (n - j) := by rw [← rp_add, show j + (n - j) = n by omega]
  have ej := hx_eta (v := v) (palm := arm) s0 0 j
  rw [spl] at eq e
  rw [ej] at eq e
  exact ⟨hx v ms arm 0 j, _, n - j, by omega, eq, by omega, e⟩
theorem Mean.twice (ok : v.Ok) (s0 : ms.sum = 0) {t2 b2 : Int} (m : Mean v ms arm t b) (m2 : Mean v (ms ++ ms) arm t2 b2) : t2 * b = 2 * t * b2 := by
  obtain ⟨y, r, p, p0, e, er, em⟩ := cyc_place ok s0 m
  have e2 := plc_step ok (v := v) (ms := ms) (s := (y, arm)) (a := 0) (b := p) e p
  rw [Nat.zero_add] at e2
  have sh := congrArg Prod.fst (rp_shift ok ms e p)
  rw [← rp_add] at sh
  have sh' : (rp v ms (y, arm) (p + p)).1 = (rp v ms (y, arm) p).1 + ((rp v ms (y, arm) p).1 - y) := sh
  have e3 : plc v (y, arm) = plc v (rp v (ms ++ ms) (y, arm) p) := by
    rw [rp_twice, show 2 * p = p + p by omega]
    exact e.trans e2
  have td := (m2.told ok p0 e3).1
  rw [rp_twice, show 2 * p = p + p by omega, sh', er] at td
  have td' : (2 * r) * b2 = t2 * (p : Int) := by rw [← td]; congr 1; omega
  have p9 : (p : Int) ≠ 0 := by omega
  apply Int.eq_of_mul_eq_mul_right p9
  have h1 : t2 * b * (p : Int) = (2 * r * b2) * b := by rw [td', Int.mul_right_comm]
  have h2 : 2 * t * b2 * (p : Int) = 2 * (t * (p : Int)) * b2 := by
    rw [Int.mul_right_comm (2 * t) b2, Int.mul_assoc 2 t]
  rw [h1, h2, em, Int.mul_right_comm (2 * r) b2 b, Int.mul_assoc 2 r b, Int.mul_comm r b]
section
variable {A B : List Int}
theorem rp_turn (v : Dv) (A B : List Int) (s : Sv) : ∀ k : Nat, rp v (B ++ A) (mvs v s A) k = mvs v (rp v (A ++ B) s k) A
  | 0 => rfl
  | k + 1 => by
    show mvs v (rp v (B ++ A) (mvs v s A) k) (B ++ A) = mvs v (mvs v (rp v (A ++ B) s k) (A ++ B)) A
    rw [rp_turn, mvs_app, mvs_app]
theorem plc_mvs (ok : v.Ok) {s u : Sv} (h : plc v s = plc v u) (ms : List Int) : plc v (mvs v s ms) = plc v (mvs v u ms) := plc_shift h (mvs_shift ok ms h)
theorem Mean.turn (ok : v.Ok) (s0 : (A ++ B).sum = 0) (m : Mean v (A ++ B) arm t b) (m' : Mean v (B ++ A) (arm + A.sum) t' b') : t = t' ∧ b = b' := by
  obtain ⟨y, r, p, p0, e, er, em⟩ := cyc_place ok s0 m
  have ex : mvs v (y, arm) A = ((mvs v (y, arm) A).1, arm + A.sum) := Prod.ext rfl (mvs_hand v A (y, arm))
  obtain ⟨z, hz⟩ : ∃ z, (mvs v (y, arm) A).1 = z := ⟨_, rfl⟩
  rw [hz] at ex
  have e2 : plc v (z, arm + A.sum) = plc v (rp v (B ++ A) (z, arm + A.sum) p) := by
    rw [← ex, rp_turn]
    exact plc_mvs ok e A
  have td := (m'.told ok p0 e2).1
  have sh := congrArg Prod.fst (mvs_shift ok A e)
  have sh' : (mvs v (rp v (A ++ B) (y, arm) p) A).1 = (mvs v (y, arm) A).1 + ((rp v (A ++ B) (y, arm) p).1 - y) := sh
  rw [← ex, rp_turn, sh', er, hz] at td
  have td' : r * b' = t' * (p : Int) := by rw [← td]; congr 1; omega
  refine frac_uniq m.b0 m'.b0 m.low m'.low ?_
  have p9 : (p : Int) ≠ 0 := by omega
  apply Int.eq_of_mul_eq_mul_right p9
  rw [Int.mul_right_comm, em, Int.mul_right_comm t', ← td', Int.mul_comm b r, Int.mul_right_comm]
/-- a height behind moves, by the common pitch -/
def ph (v : Dv) (ms : List Int) (arm x : Int) : Int := (mvs v (x, arm) ms).1 % lcmV v
theorem ph_rem (ok : v.Ok) (y : Int) : ph v ms arm (y % lcmV v) = ph v ms arm y := by
  obtain ⟨cm, _⟩ := com_lcmV ok
  have p := cm.plc (y % lcmV v) arm (y / lcmV v)
  rw [Int.emod_add_mul_ediv] at p
  have e : (mvs v (y, arm) ms).1 = (mvs v (y % lcmV v, arm) ms).1 + (y - y % lcmV v) := congrArg Prod.fst (mvs_shift ok ms p)
  have d := Int.emod_add_mul_ediv y (lcmV v)
  unfold ph
  rw [e, show y - y % lcmV v = lcmV v * (y / lcmV v) by omega, Int.add_mul_emod_self_left]
theorem ph_gk (v : Dv) (ms : List Int) (arm x : Int) : ph v ms arm x = gk v ms arm 1 x := rfl
theorem ph_app (ok : v.Ok) (A B : List Int) (arm x : Int) : ph v (A ++ B) arm x = ph v B (arm + A.sum) (ph v A arm x) := by
  have ex : mvs v (x, arm) A = ((mvs v (x, arm) A).1, arm + A.sum) := Prod.ext rfl (mvs_hand v A (x, arm))
  unfold ph
  rw [mvs_app, ex]
  exact (ph_rem ok (ms := B) (arm := arm + A.sum) (mvs v (x, arm) A).1).symm
theorem ph_held (ok : v.Ok) {x : Int} (h : x ∈ heldL v arm) (ms : List Int) : ph v ms arm x ∈ heldL v (arm + ms.sum) := by
  have hh := mvs_held ok ms _ (heldN_mem.mp h).2.2
  have ex : mvs v (x, arm) ms = ((mvs v (x, arm) ms).1, arm + ms.sum) := Prod.ext rfl (mvs_hand v ms (x, arm))
  rw [ex] at hh
  exact held_rem ok hh
theorem ph_turn (ok : v.Ok) (s0 : (A ++ B).sum = 0) (x : Int) : ∀ k : Nat, gk v (B ++ A) (arm + A.sum) k (ph v A arm x) = ph v A arm (gk v (A ++ B) arm k x)
  | 0 => by
    show ph v A arm x % lcmV v = ph v A arm (x % lcmV v)
    rw [ph_rem ok]
    unfold ph
    rw [Int.emod_emod]
  | k + 1 => by
    have sB : (B ++ A).sum = 0 := by rw [List.sum_append] at s0 ⊢; omega
    rw [gk_add ok sB, gk_add ok s0, ph_turn ok s0 x k, ← ph_gk, ← ph_gk, ph_app ok B A, ph_app ok A B]
    have : arm + A.sum + B.sum = arm := by rw [List.sum_append] at s0; omega
    rw [this]
theorem turn_last {K K' : Nat} (ok : v.Ok) (s0 : (A ++ B).sum = 0) (st : Settle v (A ++ B) arm K) (st' : Settle v (B ++ A) (arm + A.sum) K') {x : Int} (h : x ∈ setl v (A ++ B) arm K) : ph v A arm x ∈ setl v (B ++ A) (arm + A.sum) K' := by
  have sB : (B ++ A).sum = 0 := by rw [List.sum_append] at s0 ⊢; omega
  obtain ⟨p, p0, e⟩ := Settle.again ok s0 st h
  refine again_in ok sB (ph_held ok (setl_held ok s0 h) A) p0 ?_ K'
  rw [ph_turn ok s0, e]
theorem turn_nd {K : Nat} (ok : v.Ok) (s0 : (A ++ B).sum = 0) (st : Settle v (A ++ B) arm K) : ((setl v (A ++ B) arm K).map (ph v A arm)).Nodup := by
  have nd : ((setl v (A ++ B) arm K).map (gk v (A ++ B) arm 1)).Nodup := (Settle.perm ok s0 st).nodup_iff.mpr (up_nd (setl_up K))
  rw [List.nodup_iff_pairwise_ne, List.pairwise_map] at nd ⊢
  refine nd.imp fun ne e => ne ?_
  rw [← ph_gk, ← ph_gk, ph_app ok, ph_app ok, e]
theorem turn_perm {K K' : Nat} (ok : v.Ok) (s0 : (A ++ B).sum = 0) (st : Settle v (A ++ B) arm K) (st' : Settle v (B ++ A) (arm + A.sum) K') : ((setl v (A ++ B) arm K).map (ph v A arm)).Perm (setl v (B ++ A) (arm + A.sum) K') := by
  have sB : (B ++ A).sum = 0 := by rw [List.sum_append] at s0 ⊢; omega
  have back : arm + A.sum + B.sum = arm := by rw [List.sum_append] at s0; omega
  have l2 := len_of_sub (turn_nd ok sB st') (T := setl v (A ++ B) arm K) fun y hy => by
    obtain ⟨x, hx, rfl⟩ := List.mem_map.mp hy
    have := turn_last (A := B) (B := A) (arm := arm + A.sum) (K' := K) ok sB st' (by rw [back]; exact st) hx
    rw [back] at this
    exact this
  rw [List.length_map] at l2
  refine (perm_of_sub (turn_nd ok s0 st) (fun y hy => ?_) (by rw [List.length_map]; exact l2)).symm
  obtain ⟨x, hx, rfl⟩ := List.mem_map.mp hy
  exact turn_last ok s0 st st' hx
end
end
end PD

/-! PD81: the catch above; heights that are needed; ways by hands within a reach -/
namespace PD
open PySem PySem.Spec PyProof.Rows L2 Evl
abbrev uppT (c : Comb) (r : Int) : List Int := c.ts.filter fun t => decide (r ≤ t)
/-- the catch above -/
def roo (c : Comb) (n : Int) : Int := if uppT c (n % c.p) = [] then n - n % c.p + c.p + c.ts.headD 0 else n - n % c.p + (uppT c (n % c.p)).headD 0
theorem head_mem {l : List Int} (h : l ≠ []) : l.headD 0 ∈ l := by
  cases l with
  | nil => exact absurd rfl h
  | cons a r => exact List.mem_cons_self
theorem head_min {l : List Int} (up : l.Pairwise (· < ·)) {x : Int} (h : x ∈ l) : l.headD 0 ≤ x := by
  cases l with
  | nil => cases h
  | cons a r =>
    rcases List.mem_cons.mp h with e | e
    · show a ≤ x; omega
    · have := (List.pairwise_cons.mp up).1 x e
      show a ≤ x; omega
theorem roo_spec {c : Comb} (ok : c.Ok) (n : Int) : n ≤ roo c n ∧ caught c (roo c n) = true ∧ ∀ y, n ≤ y → y < roo c n → caught c y = false := by
  have hp : 0 < c.p := by have := ok.p1; omega
  have r0 := Int.emod_nonneg n (show c.p ≠ 0 by omega)
  have r1 := Int.emod_lt_of_pos n hp
  have hb : n = c.p * (n / c.p) + n % c.p := (Int.mul_ediv_add_emod n c.p).symm
  have res : ∀ m s : Int, ∀ k : Int, m = c.p * k + s → 0 ≤ s → s < c.p → caught c m = decide (s ∈ c.ts) := fun m s k e a b => by
    unfold caught
    rw [mod_of a b k e]
  unfold roo
  generalize n % c.p = r at r0 r1 hb
  generalize n / c.p = q at hb
  by_cases hu : uppT c r = []
  · rw [if_pos hu]
    have low : ∀ t ∈ c.ts, t < r := fun t ht => by
      by_cases z : r ≤ t
      · have : t ∈ uppT c r := List.mem_filter.mpr ⟨ht, decide_eq_true z⟩
        rw [hu] at this
        cases this
      · omega
    have hm := head_mem ok.ne
    have h0 := ok.low _ hm
    have h1 := ok.high _ hm
    have mul1 : c.p * (q + 1) = c.p * q + c.p := by rw [Int.mul_add, Int.mul_one]
    refine ⟨by omega, ?_, fun y y1 y2 => ?_⟩
    · rw [res _ (c.ts.headD 0) (q + 1) (by omega) h0 h1]
      exact decide_eq_true hm
    · by_cases hy : y < c.p * (q + 1)
      · rw [res y (y - c.p * q) q (by omega) (by omega) (by omega)]
        exact decide_eq_false fun z => by have := low _ z; omega
      · rw [res y (y - c.p * (q + 1)) (q + 1) (by omega) (by omega) (by omega)]
        exact decide_eq_false fun z => by have := head_min ok.up z; omega
  · rw [if_neg hu]
    have hm := head_mem hu
    have hm2 := List.mem_filter.mp hm
    have hr := of_decide_eq_true hm2.2
    have h0 := ok.low _ hm2.1
    have h1 := ok.high _ hm2.1
    have up : (uppT c r).Pairwise (· < ·) := ok.up.sublist (List.filter_sublist ..)
    refine ⟨by omega, ?_, fun y y1 y2 => ?_⟩
    · rw [res _ ((uppT c r).headD 0) q (by omega) h0 h1]
      exact decide_eq_true hm2.1
    · rw [res y (y - c.p * q) q (by omega) (by omega) (by omega)]
      refine decide_eq_false fun z => ?_
      have : y - c.p * q ∈ uppT c r := List.mem_filter.mpr ⟨z, decide_eq_true (by omega)⟩
      have := head_min up this
      omega
theorem roo_le {c : Comb} (ok : c.Ok) (n x : Int) : n ≤ flo c x ↔ roo c n ≤ x := by
  obtain ⟨a1, a2, a3⟩ := roo_spec ok n
  obtain ⟨b1, b2, b3⟩ := flo_spec ok x
  constructor
  · intro h
    rcases Int.lt_or_le (flo c x) (roo c n) with z | z
    · have := a3 _ h z
      rw [b2] at this
      cases this
    · omega
  · intro h
    rcases Int.lt_or_le (flo c x) n with z | z
    · have := b3 (roo c n) (by omega) h
      rw [a2] at this
      cases this
    · exact z
theorem roo_near {c : Comb} (ok : c.Ok) (n : Int) : n ≤ roo c n ∧ roo c n ≤ n + 48 := by
  obtain ⟨a1, a2, a3⟩ := roo_spec ok n
  refine ⟨a1, (roo_le ok n (n + 48)).mp ?_⟩
  have := flo_low ok (n + 48)
  omega
/-- least members -/
def minL : List Int → Int
  | [] => 0
  | [a] => a
  | a :: b :: r => min a (minL (b :: r))
theorem minL_spec : ∀ {l : List Int}, l ≠ [] → minL l ∈ l ∧ ∀ y ∈ l, minL l ≤ y
  | [], h => absurd rfl h
  | [a], _ => ⟨List.mem_cons_self, fun y hy => by rw [List.mem_singleton.mp hy]; exact Int.le_refl _⟩
  | a :: b :: r, _ => by
    obtain ⟨h1, h2⟩ := minL_spec (l := b :: r) (by simp)
    have e : minL (a :: b :: r) = min a (minL (b :: r)) := rfl
    rw [e]
    refine ⟨?_, fun y hy => ?_⟩
    · rcases Int.le_total a (minL (b :: r)) with z | z
      · rw [Int.min_eq_left z]; exact List.mem_cons_self
      · rw [Int.min_eq_right z]; exact List.mem_cons_of_mem _ h1
    · rcases List.mem_cons.mp hy with z | z
      · omega
      · have := h2 y z; omega
theorem minL_uniq {l k : List Int} (hl : l ≠ []) {m : Int} (h1 : m ∈ k) (h2 : ∀ y ∈ k, m ≤ y) (s : ∀ x, x ∈ l ↔ x ∈ k) : m = minL l := by
  obtain ⟨a, b⟩ := minL_spec hl
  have := b m ((s m).mpr h1)
  have := h2 _ ((s _).mp a)
  omega
/-- the least height from which a move, or none, to a hand leads to what is needed there -/
def needH (v : Dv) (N : Nat → Int) (a g : Nat) : Int := if g < a then min (N g + a - g) (roo v.1 (N g)) else if a < g then min (N g) (a + roo v.2 (N g - g)) else N a
def stepN (v : Dv) (R : Nat) (N : Nat → Int) (a : Nat) : Int := minL ((List.range (R + 1)).map (needH v N a))
def nrow (v : Dv) (R : Nat) (H : Int) : Nat → Nat → Int
  | 0, _ => H
  | k + 1, a => stepN v R (nrow v R H k) a
def goS (v : Dv) : Int → Nat → List Nat → Int × Nat
  | h, a, [] => (h, a)
  | h, a, g :: gs => goS v (reachH v h a g) g gs
section
variable {v : Dv} {R : Nat} {H : Int}
theorem goS_app (v : Dv) : ∀ (xs ys : List Nat) (h : Int) (a : Nat), goS v h a (xs ++ ys) = goS v (goS v h a xs).1 (goS v h a xs).2 ys
  | [], _, _, _ => rfl
  | g :: xs, ys, h, a => goS_app v xs ys _ g
theorem needH_iff (ok : v.Ok) (N : Nat → Int) (h : Int) (a g : Nat) : needH v N a g ≤ h ↔ N g ≤ reachH v h a g := by
  have s0 := slk_nn ok.2 (h - (a : Int))
  unfold needH reachH
  by_cases q : g < a
  · rw [if_pos q, if_pos q]
    have r := roo_le ok.1 (N g) h
    have e : slk v.1 h = h - flo v.1 h := rfl
    rw [e]
    constructor
    · intro z
      rcases Int.le_total (N g + a - g) (roo v.1 (N g)) with y | y
      · rw [Int.min_eq_left y] at z; omega
      · rw [Int.min_eq_right y] at z
        have := r.mpr z
        omega
    · intro z
      by_cases y : N g ≤ flo v.1 h
      · have := r.mp y; omega
      · omega
  · rw [if_neg q, if_neg q]
    by_cases p : a < g
    · rw [if_pos p]
      have r := roo_le ok.2 (N g - g) (h - a)
      have e : slk v.2 (h - (a : Int)) = h - a - flo v.2 (h - a) := rfl
      rw [e] at s0 ⊢
      constructor
      · intro z
        rcases Int.le_total (N g) (a + roo v.2 (N g - g)) with y | y
        · rw [Int.min_eq_left y] at z; omega
        · rw [Int.min_eq_right y] at z
          have := r.mpr (by omega)
          omega
      · intro z
        by_cases y : N g - g ≤ flo v.2 (h - a)
        · have := r.mp y; omega
        · omega
    · have e : g = a := by omega
      subst e
      rw [if_neg p]
      omega
theorem range_ne (R : Nat) (f : Nat → Int) : (List.range (R + 1)).map f ≠ [] := by simp
theorem step_iff (ok : v.Ok) (N : Nat → Int) (h : Int) (a : Nat) : stepN v R N a ≤ h ↔ ∃ g, g ≤ R ∧ N g ≤ reachH v h a g := by
  obtain ⟨m1, m2⟩ := minL_spec (range_ne R (needH v N a))
  constructor
  · intro z
    obtain ⟨g, hg, e⟩ := List.mem_map.mp m1
    exact ⟨g, by have := List.mem_range.mp hg; omega, (needH_iff ok N h a g).mp (by rw [e]; exact z)⟩
  · rintro ⟨g, hg, z⟩
    have := m2 _ (List.mem_map.mpr ⟨g, List.mem_range.mpr (by omega), rfl⟩)
    have := (needH_iff ok N h a g).mpr z
    show minL _ ≤ h
    omega
theorem reach_mono (ok : v.Ok) {h h' : Int} (hh : h ≤ h') (a g : Nat) : reachH v h a g ≤ reachH v h' a g := by
  have a2 := flo_mono ok.1 hh
  have b2 := flo_mono ok.2 (show h - (a : Int) ≤ h' - (a : Int) by omega)
  unfold reachH slk
  split <;> omega
theorem reach_own (ok : v.Ok) (h : Int) (a : Nat) : reachH v h a a = h := by
  have := slk_nn ok.2 (h - (a : Int))
  unfold reachH
  rw [if_neg (Nat.lt_irrefl _)]
  omega
theorem reach_near (ok : v.Ok) (h : Int) {a g R : Nat} (ha : a ≤ R) (hg : g ≤ R) : h - R ≤ reachH v h a g ∧ h - 24 ≤ reachH v h a g ∧ reachH v h a g ≤ h + R := by
  have s0 := slk_nn ok.2 (h - (a : Int))
  have s1 := slk_nn ok.1 h
  have s2 := slk_lt ok.1 h
  have := ok.1.p24
  unfold reachH
  split <;> omega
/-- what is needed with so many moves to come: just what so many moves lead on from -/
theorem nrow_iff (ok : v.Ok) : ∀ (k : Nat) (h : Int) (a : Nat), nrow v R H k a ≤ h ↔ ∃ gs : List Nat, gs.length = k ∧ (∀ g ∈ gs, g ≤ R) ∧ H ≤ (goS v h a gs).1
  | 0, h, a => ⟨fun z => ⟨[], rfl, (fun _ q => nomatch q), z⟩, fun ⟨gs, e, _, z⟩ => by
    rw [List.length_eq_zero_iff.mp e] at z
    exact z⟩
  | k + 1, h, a => by
    show stepN v R (nrow v R H k) a ≤ h ↔ _
    rw [step_iff ok]
    constructor
    · rintro ⟨g, hg, z⟩
      obtain ⟨gs, e, b, y⟩ := (nrow_iff ok k _ g).mp z
      refine ⟨g :: gs, by rw [List.length_cons, e], fun x hx => ?_, y⟩
      rcases List.mem_cons.mp hx with q | q
      · rw [q]; exact hg
      · exact b x q
    · rintro ⟨gs, e, b, y⟩
      cases gs with
      | nil => cases e
      | cons g gs =>
        exact ⟨g, b g List.mem_cons_self, (nrow_iff ok k _ g).mpr ⟨gs, by simpa using e, fun x hx => b x (List.mem_cons_of_mem _ hx), y⟩⟩
theorem nrow_le (ok : v.Ok) (k : Nat) {a : Nat} (ha : a ≤ R) : nrow v R H (k + 1) a ≤ nrow v R H k a := by
  show stepN v R (nrow v R H k) a ≤ _
  rw [step_iff ok]
  exact ⟨a, ha, by rw [reach_own ok]; exact Int.le_refl _⟩
theorem nrow_mono (ok : v.Ok) {a : Nat} (ha : a ≤ R) (k : Nat) : ∀ j : Nat, nrow v R H (k + j) a ≤ nrow v R H k a
  | 0 => Int.le_refl _
  | j + 1 => Int.le_trans (nrow_le ok (k + j) ha) (nrow_mono ok ha k j)
/-- rows are not far below a state that has not come up to them -/
theorem nrow_low (ok : v.Ok) {p : Int} {a : Nat} (ha : a ≤ R) (hR : R ≤ 24) : ∀ (k : Nat), p < nrow v R H k a → ∀ g, g ≤ R → p - 48 < nrow v R H k g
  | 0, h, g, _ => by
    have h' : p < H := h
    show p - 48 < H
    omega
  | k + 1, h, g, hg => by
    apply Classical.byContradiction
    intro no
    have le : stepN v R (nrow v R H k) g ≤ p - 48 := by
      show nrow v R H (k + 1) g ≤ _
      omega
    obtain ⟨g2, hg2, z⟩ := (step_iff ok _ _ _).mp le
    have r1 := reach_near ok (p - 48) hg hg2
    have r2 := reach_near ok p ha hg2
    have : nrow v R H (k + 1) a ≤ p := (step_iff ok _ _ _).mpr ⟨g2, hg2, by omega⟩
    omega
/-- rows that come again stay -/
theorem nrow_fix (ok : v.Ok) {k : Nat} (e : ∀ a, a ≤ R → nrow v R H (k + 1) a = nrow v R H k a) : ∀ (j : Nat) (a : Nat), a ≤ R → nrow v R H (k + j) a = nrow v R H k a
  | 0, _, _ => rfl
  | j + 1, a, ha => by
    rw [← e a ha]
    show minL ((List.range (R + 1)).map (needH v (nrow v R H (k + j)) a)) = minL ((List.range (R + 1)).map (needH v (nrow v R H k) a))
    congr 1
    refine List.map_congr_left fun g hg => ?_
    have hg' : g ≤ R := by have := List.mem_range.mp hg; omega
    unfold needH
    rw [nrow_fix ok e j g hg', nrow_fix ok e j a ha]
/-! ### a measure of rows -/
def rowM (lo : Int) (f : Nat → Int) : Nat → Nat
  | 0 => 0
  | n + 1 => rowM lo f n + (f n - lo).toNat
theorem rowM_le {lo : Int} {f g : Nat → Int} : ∀ {n : Nat}, (∀ i, i < n → f i ≤ g i) → rowM lo f n ≤ rowM lo g n
  | 0, _ => Nat.le_refl _
  | n + 1, h => by
    have := rowM_le (lo := lo) (n := n) fun i hi => h i (by omega)
    have := h n (by omega)
    show rowM lo f n + _ ≤ rowM lo g n + _
    omega
theorem rowM_lt {lo : Int} {f g : Nat → Int} : ∀ {n : Nat}, (∀ i, i < n → f i ≤ g i) → (∃ i, i < n ∧ f i ≠ g i ∧ lo < g i) → rowM lo f n < rowM lo g n
  | 0, _, ⟨i, hi, _⟩ => absurd hi (Nat.not_lt_zero i)
  | n + 1, h, ⟨i, hi, e, l⟩ => by
    have hn := h n (by omega)
    show rowM lo f n + _ < rowM lo g n + _
    by_cases q : i = n
    · subst q
      have := rowM_le (lo := lo) (n := i) fun j hj => h j (by omega)
      omega
    · have := rowM_lt (lo := lo) (n := n) (fun j hj => h j (by omega)) ⟨i, by omega, e, l⟩
      omega
/-! ### the greatest heights -/
theorem inner_sound {tops b : List OI} {hd : Nat} {h : Int} (own : tops[hd]? = some (some h)) : ∀ {n : Nat} {g : Nat} {x : Int}, (innerF v b hd h n)[g]? = some (some x) → b[g]? = some (some x) ∨ ∃ hd' h', tops[hd']? = some (some h') ∧ x = reachH v h' hd' g
  | 0, _, _, e => .inl e
  | n + 1, g, x, e => by
    rw [innerF_succ] at e
    by_cases q : n = g
    · subst q
      have lt := (List.getElem?_eq_some_iff.mp e).1
      rw [updG_len] at lt
      obtain ⟨y, y1, y2, _⟩ := updG_at (r := reachH v h hd n) lt
      rw [y1] at e
      cases e
      rcases y2 with z | z
      · exact .inr ⟨hd, h, own, z⟩
      · exact inner_sound own z
    · rw [updG_ne q] at e
      exact inner_sound own e
theorem more_sound (ok : v.Ok) {tops : List OI} : ∀ {n : Nat} {g : Nat} {x : Int}, (moreF v tops n)[g]? = some (some x) → ∃ hd h, tops[hd]? = some (some h) ∧ x = reachH v h hd g
  | 0, g, x, e => ⟨g, x, e, (reach_own ok x g).symm⟩
  | n + 1, g, x, e => by
    rw [moreF_succ] at e
    unfold turnF at e
    split at e
    · rename_i h own
      rcases inner_sound own e with z | z
      · exact more_sound ok z
      · exact z
    · exact more_sound ok e
theorem inner_comp {b : List OI} {hd : Nat} {h : Int} : ∀ {n : Nat} {g : Nat}, g < n → g < b.length → ∃ x, (innerF v b hd h n)[g]? = some (some x) ∧ reachH v h hd g ≤ x
  | 0, _, h, _ => absurd h (Nat.not_lt_zero _)
  | n + 1, g, hg, hl => by
    rw [innerF_succ]
    by_cases q : n = g
    · subst q
      obtain ⟨x, x1, _, x3, _⟩ := updG_at (b := innerF v b hd h n) (g := n) (r := reachH v h hd n) (by rw [innerF_len]; exact hl)
      exact ⟨x, x1, x3⟩
    · rw [updG_ne q]
      exact inner_comp (by omega) hl
theorem turn_ge (tops b : List OI) (n : Nat) : Ge (turnF v tops b n) b := by
  unfold turnF
  split
  · exact (Ge.refl b).innerF v _ _ _
  · exact Ge.refl b
theorem more_comp {tops : List OI} {hd : Nat} {h : Int} (own : tops[hd]? = some (some h)) : ∀ {n : Nat}, hd < n → ∀ {g : Nat}, g < tops.length → ∃ x, (moreF v tops n)[g]? = some (some x) ∧ reachH v h hd g ≤ x
  | 0, h, _, _ => absurd h (Nat.not_lt_zero _)
  | n + 1, hn, g, hg => by
    rw [moreF_succ]
    by_cases q : n = hd
    · subst q
      unfold turnF
      rw [own]
      exact inner_comp hg (by rw [moreF_len]; exact hg)
    · obtain ⟨x, x1, x2⟩ := more_comp own (n := n) (by omega) hg
      obtain ⟨y, y1, y2⟩ := turn_ge (v := v) tops (moreF v tops n) n g x x1
      exact ⟨y, y1, by omega⟩
theorem it_sound (ok : v.Ok) {a : Nat} {h : Int} (ha : a ≤ R) : ∀ {n : Nat} {g : Nat} {x : Int}, (itT v (startT R a h) n)[g]? = some (some x) → ∃ gs : List Nat, gs.length = n ∧ (∀ y ∈ gs, y ≤ R) ∧ goS v h a gs = (x, g)
  | 0, g, x, e => by
    have lt := (List.getElem?_eq_some_iff.mp e).1
    have e' : (startT R a h)[g]? = some (some x) := e
    rw [show (itT v (startT R a h) 0).length = R + 1 from startT_len ..] at lt
    rw [startT_get (by omega)] at e'
    by_cases q : g = a
    · rw [if_pos q] at e'
      cases e'
      exact ⟨[], rfl, (fun _ z => nomatch z), by rw [q]; rfl⟩
    · rw [if_neg q] at e'
      cases e'
  | n + 1, g, x, e => by
    have lt := (List.getElem?_eq_some_iff.mp e).1
    rw [itT_len, startT_len] at lt
    obtain ⟨hd, h', own, ex⟩ := more_sound ok (tops := itT v (startT R a h) n) e
    obtain ⟨gs, e1, e2, e3⟩ := it_sound ok ha own
    refine ⟨gs ++ [g], by rw [List.length_append, e1]; rfl, fun y hy => ?_, ?_⟩
    · rcases List.mem_append.mp hy with z | z
      · exact e2 y z
      · rw [List.mem_singleton.mp z]; omega
    · rw [goS_app, e3]
      show (reachH v h' hd g, g) = (x, g)
      rw [ex]
theorem goS_hand (v : Dv) : ∀ (gs : List Nat) {h : Int} {a : Nat}, a ≤ R → (∀ y ∈ gs, y ≤ R) → (goS v h a gs).2 ≤ R
  | [], _, _, ha, _ => ha
  | g :: gs, _, _, _, hg => goS_hand v gs (hg g List.mem_cons_self) fun y hy => hg y (List.mem_cons_of_mem _ hy)
theorem it_comp (ok : v.Ok) {a : Nat} {h : Int} (ha : a ≤ R) : ∀ (n : Nat) {gs : List Nat}, gs.length = n → (∀ y ∈ gs, y ≤ R) → ∃ x, (itT v (startT R a h) n)[(goS v h a gs).2]? = some (some x) ∧ (goS v h a gs).1 ≤ x
  | 0, gs, e, _ => by
    rw [List.length_eq_zero_iff.mp e]
    refine ⟨h, ?_, Int.le_refl _⟩
    show (startT R a h)[a]? = _
    rw [startT_get ha, if_pos rfl]
  | n + 1, gs, e, hg => by
    have ne : gs ≠ [] := fun z => by rw [z] at e; cases e
    have sp := (List.dropLast_concat_getLast ne).symm
    obtain ⟨gs', hgs'⟩ : ∃ q, gs.dropLast = q := ⟨_, rfl⟩
    obtain ⟨g, hgl⟩ : ∃ q, gs.getLast ne = q := ⟨_, rfl⟩
    rw [hgs', hgl] at sp
    have l : gs'.length = n := by rw [← hgs', List.length_dropLast, e]; rfl
    have sub : ∀ y ∈ gs', y ≤ R := fun y hy => hg y (by rw [sp]; exact List.mem_append_left _ hy)
    have gR : g ≤ R := hg g (by rw [sp]; exact List.mem_append_right _ List.mem_cons_self)
    obtain ⟨x, x1, x2⟩ := it_comp ok ha n l sub
    have lt := (List.getElem?_eq_some_iff.mp x1).1
    obtain ⟨y, y1, y2⟩ := more_comp (v := v) x1 lt (g := g) (by rw [itT_len, startT_len]; omega)
    rw [sp, goS_app]
    refine ⟨y, y1, ?_⟩
    have := reach_mono ok x2 (goS v h a gs').2 g
    show reachH v (goS v h a gs').1 (goS v h a gs').2 g ≤ y
    omega
/-- the greatest height is enough just if so many moves lead there -/
theorem top_iff (ok : v.Ok) {a : Nat} {h m : Int} (ha : a ≤ R) {n : Nat} (m1 : m ∈ (itT v (startT R a h) n).filterMap id) (m2 : ∀ y ∈ (itT v (startT R a h) n).filterMap id, y ≤ m) : H ≤ m ↔ nrow v R H n a ≤ h := by
  rw [nrow_iff ok]
  constructor
  · intro z
    obtain ⟨o, ho, e⟩ := List.mem_filterMap.mp m1
    obtain ⟨g, hg⟩ := List.mem_iff_getElem?.mp ho
    have e' : o = some m := e
    rw [e'] at hg
    obtain ⟨gs, e1, e2, e3⟩ := it_sound ok ha hg
    exact ⟨gs, e1, e2, by rw [e3]; exact z⟩
  · rintro ⟨gs, e1, e2, z⟩
    obtain ⟨x, x1, x2⟩ := it_comp ok (h := h) ha n e1 e2
    have := m2 x (List.mem_filterMap.mpr ⟨some x, List.mem_of_getElem? x1, rfl⟩)
    omega
/-! ### the least moves -/
inductive Grd (v : Dv) (R : Nat) (H : Int) : Nat → Int → Nat → List Nat → Prop
  | nil {h : Int} {a : Nat} : Grd v R H 0 h a []
  | cons {k : Nat} {h : Int} {a g : Nat} {gs : List Nat} (hg : g ≤ R) (hi : nrow v R H k g ≤ reachH v h a g) (lo : ∀ g', g' < g → ¬ nrow v R H k g' ≤ reachH v h a g') (t : Grd v R H k (reachH v h a g) g gs) : Grd v R H (k + 1) h a (g :: gs)
theorem Grd.len {k : Nat} {h : Int} {a : Nat} {gs : List Nat} (t : Grd v R H k h a gs) : gs.length = k := by
  induction t with
  | nil => rfl
  | cons _ _ _ _ ih => rw [List.length_cons, ih]
theorem Grd.in {k : Nat} {h : Int} {a : Nat} {gs : List Nat} (t : Grd v R H k h a gs) : ∀ g ∈ gs, g ≤ R := by
  induction t with
  | nil => exact fun _ q => nomatch q
  | cons hg _ _ _ ih =>
    intro x hx
    rcases List.mem_cons.mp hx with q | q
    · rw [q]; exact hg
    · exact ih x q
theorem Grd.leads {k : Nat} {h : Int} {a : Nat} {gs : List Nat} (t : Grd v R H k h a gs) (h0 : nrow v R H k a ≤ h) : H ≤ (goS v h a gs).1 := by
  induction t with
  | nil => exact h0
  | cons _ hi _ _ ih => exact ih hi
/-- no sooner -/
structure Few (v : Dv) (R : Nat) (H : Int) (k : Nat) (h : Int) (a : Nat) : Prop where
  hi : nrow v R H k a ≤ h
  lo : ∀ j, j < k → h < nrow v R H j a
theorem Few.uniq {k j : Nat} {h : Int} {a : Nat} (f : Few v R H k h a) (g : Few v R H j h a) : k = j := by
  rcases Nat.lt_trichotomy k j with z | z | z
  · have := g.lo k z; have := f.hi; omega
  · exact z
  · have := f.lo j z; have := g.hi; omega
theorem Few.next (ok : v.Ok) {k : Nat} {h : Int} {a g : Nat} (f : Few v R H (k + 1) h a) (hg : g ≤ R) (hi : nrow v R H k g ≤ reachH v h a g) : Few v R H k (reachH v h a g) g ∧ g ≠ a := by
  have key : ∀ j, j < k → reachH v h a g < nrow v R H j g := fun j hj => by
    rcases Int.lt_or_le (reachH v h a g) (nrow v R H j g) with z | z
    · exact z
    · have : nrow v R H (j + 1) a ≤ h := (step_iff ok _ _ _).mpr ⟨g, hg, z⟩
      have := f.lo (j + 1) (by omega)
      omega
  refine ⟨⟨hi, key⟩, fun e => ?_⟩
  subst e
  rw [reach_own ok] at hi
  have := f.lo k (Nat.lt_succ_self k)
  omega
theorem Grd.ex (ok : v.Ok) : ∀ {k : Nat} {h : Int} {a : Nat}, nrow v R H k a ≤ h → ∃ gs, Grd v R H k h a gs
  | 0, _, _, _ => ⟨[], .nil⟩
  | k + 1, h, a, z => by
    obtain ⟨g0, hg0, z0⟩ := (step_iff ok _ _ _).mp z
    obtain ⟨g, h1, h2, h3⟩ := least_nat (fun g => nrow v R H k g ≤ reachH v h a g) g0 z0
    obtain ⟨gs, t⟩ := Grd.ex ok h2
    exact ⟨g :: gs, .cons (by omega) h2 h3 t⟩
theorem Grd.uniq {k : Nat} {h : Int} {a : Nat} {gs : List Nat} (t : Grd v R H k h a gs) : ∀ {gs' : List Nat}, Grd v R H k h a gs' → gs = gs' := by
  induction t with
  | nil => intro gs' u; cases u; rfl
  | @cons k h a g gs hg hi lo t ih =>
    intro gs' u
    cases u with
    | @cons _ _ _ g' gs2 hg' hi' lo' u =>
      have e : g = g' := by
        rcases Nat.lt_trichotomy g g' with z | z | z
        · exact absurd hi (lo' g z)
        · exact z
        · exact absurd hi' (lo g' z)
      subst e
      rw [ih u]
def movesOf : Nat → List Nat → List Int
  | _, [] => []
  | a, g :: gs => ((g : Int) - (a : Int)) :: movesOf g gs
theorem movesOf_len : ∀ (a : Nat) (gs : List Nat), (movesOf a gs).length = gs.length
  | _, [] => rfl
  | a, g :: gs => by show (movesOf g gs).length + 1 = _; rw [movesOf_len]; rfl
theorem reach_mv (ok : v.Ok) (h : Int) {a g : Nat} (ne : g ≠ a) : mv v (h, (a : Int)) ((g : Int) - (a : Int)) = (reachH v h a g, (g : Int)) := by
  unfold reachH
  by_cases q : g < a
  · rw [if_pos q, mv_down' (by omega)]
    refine Prod.ext ?_ (by show (a : Int) + ((g : Int) - a) = g; omega)
    show h - min (-((g : Int) - a)) (slk v.1 h) = h - min ((a : Int) - g) (slk v.1 h)
    congr 2
    omega
  · rw [if_neg q, mv_up' (by omega)]
    refine Prod.ext ?_ (by show (a : Int) + ((g : Int) - a) = g; omega)
    show h + ((g : Int) - a) - min ((g : Int) - a) (slk v.2 (h - a)) = h + max ((g : Int) - a - slk v.2 (h - a)) 0
    omega
end
end PD

/-! PD82: a loop over a list from its end -/
namespace PD
open PySem PySem.Spec PyProof.Rows L2 Evl
section
variable {c : Cn} {K : PySem.W.Frag} {ds : DS} {pl : List D} {t : TS} {E : EE}
theorem ws_forRev {j : Nat} {tl : TE} (P : List D → Prop) (I : Nat → DS → List D → Prop) (h : WE c tl ds pl (isD fun d p1 => ∃ xs, d = .list xs ∧ P xs ∧ I 0 ds p1))
    (hs : ∀ xs, P xs → ∀ i x ds' pl', i < xs.length → xs[xs.length - 1 - i]? = some x → I i ds' pl' → WS c t (ds'.set j (some (.d x))) pl' { nx := I (i + 1), ct := I (i + 1), bk := E.nx, rt := E.rt }) (hd : ∀ xs, P xs → ∀ ds' pl', I xs.length ds' pl' → E.nx ds' pl') :
    WS c (tFor (RT.iRevA K tl) (gName j) t) ds pl E := fun G σ H h0 D' f => h G σ H h0 _ fun v G1 H1 w p1 h1 e1 f1 g1 => by
  match w, f1, g1 with
  | .d d, f1, ⟨xs, ed, px, g1⟩ =>
    subst ed
    cases f1 with
    | @lst a vs _ a1 b1 =>
    have len := b1.len
    refine ⟨a, vs, rfl, .inl ⟨SqL.of (h1.sub _ _ a1), RT.for_Itv (K := K) (a := a) (xs := vs) (fun i σ' H' => ∃ G' ds' pl', HS c G' σ' H' ds' pl' ∧ Ex G1 G' ∧ I i ds' pl') ⟨G1, ds, p1, h1, Ex.refl _, g1⟩ ?_ ?_ ?_⟩⟩
    · rintro i σ' H' ⟨G', ds', pl', h2, e2, _⟩
      exact SqL.of (h2.sub _ _ (e2 _ _ a1))
    · rintro i x σ' H' hi hx ⟨G', ds', pl', h2, e2, g2⟩
      obtain ⟨d, hd1, hd2⟩ := b1.get' hx
      rw [len] at hd1 hi
      refine hs xs px i d ds' pl' hi hd1 g2 G' _ H' (h2.set (w := .d d) (R.up hd2 e2) fun xs z => by cases z) _ ⟨?_, ?_, ?_, ?_⟩
      · exact fun G3 σ3 H3 ds3 pl3 h3 e3 g3 => ⟨G3, ds3, pl3, h3, e2.trans e3, g3⟩
      · exact fun v G3 σ3 H3 ds3 w3 pl3 h3 e3 q3 g3 => f.rt v G3 σ3 H3 ds3 w3 pl3 h3 ((e1.trans e2).trans e3) q3 g3
      · exact fun G3 σ3 H3 ds3 pl3 h3 e3 g3 => f.nx G3 σ3 H3 ds3 pl3 h3 ((e1.trans e2).trans e3) g3
      · exact fun G3 σ3 H3 ds3 pl3 h3 e3 g3 => ⟨G3, ds3, pl3, h3, e2.trans e3, g3⟩
    · rintro σ' H' ⟨G', ds', pl', h2, e2, g2⟩
      rw [len] at g2
      exact f.nx G' σ' H' ds' pl' h2 (e1.trans e2) (hd xs px _ _ g2)
end
end PD

/-! PD83: rows of heights as data; told best moves -/
namespace PD
open PySem PySem.Spec PyProof.Rows L2 Evl
abbrev rowI (R : Nat) (f : Nat → Int) : List Int := (List.range (R + 1)).map f
abbrev rowN (R : Nat) (f : Nat → Int) : D := .list ((rowI R f).map PyData.int)
theorem rowI_get {R : Nat} {f : Nat → Int} {i : Nat} (h : i ≤ R) : (rowI R f)[i]? = some (f i) := by
  rw [List.getElem?_map, List.getElem?_range (by omega)]
  rfl
theorem rowD_get {R : Nat} {f : Nat → Int} {i : Nat} (h : i ≤ R) : ((rowI R f).map PyData.int)[i]? = some (.int (f i)) := by
  rw [List.getElem?_map, rowI_get h]
  rfl
theorem rowI_len (R : Nat) (f : Nat → Int) : (rowI R f).length = R + 1 := by rw [List.length_map, List.length_range]
theorem rowI_eq {R : Nat} {f g : Nat → Int} : rowI R f = rowI R g ↔ ∀ a, a ≤ R → f a = g a := by
  constructor
  · intro e a ha
    have h1 := rowI_get (f := f) ha
    rw [e, rowI_get ha] at h1
    exact (Option.some.inj h1).symm
  · intro e
    exact List.map_congr_left fun a ha => e a (by have := List.mem_range.mp ha; omega)
theorem movesOf_snoc (v : Dv) : ∀ (gs : List Nat) (h : Int) (a g : Nat), movesOf a (gs ++ [g]) = movesOf a gs ++ [(g : Int) - ((goS v h a gs).2 : Int)]
  | [], _, _, _ => rfl
  | x :: gs, h, a, g => by
    show _ :: movesOf x (gs ++ [g]) = _
    rw [movesOf_snoc v gs (reachH v h a x) x g]
    rfl
/-- the members of a minimum told by three lists -/
theorem needs_mem (v : Dv) (R : Nat) (N : Nat → Int) {a : Nat} (ha : a ≤ R) (x : Int) :
    x ∈ (List.range (R + 1)).map (needH v N a) ↔ x ∈ N a :: ((List.range a).map (fun (g : Nat) => min (N g + a - g) (roo v.1 (N g)))) ++ ((List.range (R - a)).map fun (j : Nat) => min (N (a + 1 + j)) (a + roo v.2 (N (a + 1 + j) - ((a + 1 + j : Nat) : Int)))) := by
  constructor
  · intro h
    obtain ⟨g, hg, rfl⟩ := List.mem_map.mp h
    have hg := List.mem_range.mp hg
    unfold needH
    by_cases q : g < a
    · rw [if_pos q]
      exact List.mem_append_left _ (List.mem_cons_of_mem _ (List.mem_map.mpr ⟨g, List.mem_range.mpr q, rfl⟩))
    · rw [if_neg q]
      by_cases p : a < g
      · rw [if_pos p]
        refine List.mem_append_right _ (List.mem_map.mpr ⟨g - a - 1, List.mem_range.mpr (by omega), ?_⟩)
        rw [show a + 1 + (g - a - 1) = g by omega]
      · rw [if_neg p]
        exact List.mem_append_left _ List.mem_cons_self
  · intro h
    rw [List.mem_map]
    rcases List.mem_append.mp h with h | h
    · rcases List.mem_cons.mp h with h | h
      · refine ⟨a, List.mem_range.mpr (by omega), ?_⟩
        unfold needH
        rw [if_neg (Nat.lt_irrefl _), if_neg (Nat.lt_irrefl _)]
        exact h.symm
      · obtain ⟨g, hg, e⟩ := List.mem_map.mp h
        have hg := List.mem_range.mp hg
        refine ⟨g, List.mem_range.mpr (by omega), ?_⟩
        unfold needH
        rw [if_pos hg]
        exact e
    · obtain ⟨j, hj, e⟩ := List.mem_map.mp h
      have hj := List.mem_range.mp hj
      refine ⟨a + 1 + j, List.mem_range.mpr (by omega), ?_⟩
      unfold needH
      rw [if_neg (by omega), if_pos (by omega)]
      exact e
theorem rowM_const (lo H : Int) : ∀ n : Nat, rowM lo (fun _ => H) n = n * (H - lo).toNat
  | 0 => by rw [Nat.zero_mul]; rfl
  | n + 1 => by
    show rowM lo (fun _ => H) n + _ = _
    rw [rowM_const lo H n, Nat.succ_mul]
/-- what is told of the fewest moves -/
def TellF (v : Dv) (R : Nat) (H h : Int) (a : Nat) (some' : Nat → D → Prop) (d : D) : Prop := (d = .none ∧ ∀ j, h < nrow v R H j a) ∨ ∃ k, k ≤ 10000 ∧ Few v R H k h a ∧ some' k d
end PD

/-! PD84: for over a range with a step; states of ways -/
namespace PD
open PySem PySem.Spec PyProof.Rows L2 Evl
section
variable {c : Cn} {K : PySem.W.Frag} {ds : DS} {pl : List D} {t : TS} {E : EE} {tr : TA}
theorem rgc40 {k : Nat} (h : k ≤ 100000) : RgC 0 (k : Int) 40 ((k + 39) / 40) := by
  have e : Builtin.Range.rangeSize 0 (k : Int) 40 = (((k + 39) / 40 : Nat) : Int) := by
    unfold Builtin.Range.rangeSize
    rw [if_pos (by decide)]
    split <;> omega
  have fit : ∀ x : Int, 0 ≤ x → x ≤ 200000 → Builtin.Range.rangeFitsLong x = true := fun x h1 h2 => by
    unfold Builtin.Range.rangeFitsLong
    rw [decide_eq_true (show -2 ^ 63 ≤ x by omega), decide_eq_true (show x < 2 ^ 63 by omega)]
    rfl
  refine ⟨by decide, by decide, ?_, e⟩
  unfold Builtin.Range.small
  rw [e, fit 0 (by decide) (by decide), fit k (by omega) (by omega), fit 40 (by decide) (by decide), fit (((k + 39) / 40 : Nat) : Int) (by omega) (by omega), if_pos (show (40 : Int) > 0 by decide), fit ((k : Int) + (40 - 1)) (by omega) (by omega), Bool.or_true]
  rfl
theorem ws_forR3 {j : Nat} (I : Nat → DS → List D → Prop) (lo hi st : Int) (n : Nat) (h : WA c tr ds pl fun xs p1 => xs = [.int lo, .int hi, .int st] ∧ RgC lo hi st n ∧ I 0 ds p1)
    (hs : ∀ (i : Nat) ds' pl', i < n → I i ds' pl' → WS c t (ds'.set j (some (.d (.int (lo + (i : Int) * st))))) pl' { nx := I (i + 1), ct := I (i + 1), bk := E.nx, rt := E.rt }) (hd : ∀ ds' pl', I n ds' pl' → E.nx ds' pl') :
    WS c (tFor (iRng3 tr) (gName j) t) ds pl E := fun G σ H h0 D' f => h G σ H h0 _ fun vs G1 H1 xs p1 h1 e1 f1 ⟨e, rg, g1⟩ => by
  subst e
  obtain ⟨v1, v2, v3, rfl, r1, r2, r3⟩ := ra3 f1
  cases r1
  cases r2
  cases r3
  refine ⟨lo, hi, st, n, rfl, rg, for_rangeC (fun i σ' H' => ∃ G' ds' pl', HS c G' σ' H' ds' pl' ∧ Ex G1 G' ∧ I i ds' pl') ⟨G1, ds, p1, h1, Ex.refl _, g1⟩ ?_ ?_⟩
  · rintro i σ' H' hx ⟨G', ds', pl', h2, e2, g2⟩
    refine hs i ds' pl' hx g2 G' _ H' (h2.set (w := .d (.int (lo + (i : Int) * st))) (R.int _) fun xs z => by cases z) _ ⟨?_, ?_, ?_, ?_⟩
    · exact fun G3 σ3 H3 ds3 pl3 h3 e3 g3 => ⟨G3, ds3, pl3, h3, e2.trans e3, g3⟩
    · exact fun v G3 σ3 H3 ds3 w3 pl3 h3 e3 q3 g3 => f.rt v G3 σ3 H3 ds3 w3 pl3 h3 ((e1.trans e2).trans e3) q3 g3
    · exact fun G3 σ3 H3 ds3 pl3 h3 e3 g3 => f.nx G3 σ3 H3 ds3 pl3 h3 ((e1.trans e2).trans e3) g3
    · exact fun G3 σ3 H3 ds3 pl3 h3 e3 g3 => ⟨G3, ds3, pl3, h3, e2.trans e3, g3⟩
  · rintro σ' H' ⟨G', ds', pl', h2, e2, g2⟩
    exact f.nx G' σ' H' ds' pl' h2 (e1.trans e2) (hd _ _ g2)
end
section
variable {v : Dv} {R : Nat} {H : Int}
/-- the states behind the moves to hands -/
def statS (v : Dv) : Int → Nat → List Nat → List Sv
  | _, _, [] => []
  | h, a, g :: gs => (reachH v h a g, (g : Int)) :: statS v (reachH v h a g) g gs
/-- no hand is stayed at -/
def NoStay : Nat → List Nat → Prop
  | _, [] => True
  | a, g :: gs => g ≠ a ∧ NoStay g gs
theorem trail_stat (ok : v.Ok) : ∀ (gs : List Nat) (h : Int) (a : Nat), NoStay a gs → trail v (h, (a : Int)) (movesOf a gs) = statS v h a gs
  | [], _, _, _ => rfl
  | g :: gs, h, a, ns => by
    show mv v (h, (a : Int)) ((g : Int) - a) :: trail v (mv v (h, (a : Int)) ((g : Int) - a)) (movesOf g gs) = _
    rw [reach_mv ok h ns.1, trail_stat ok gs _ g ns.2]
    rfl
theorem stat_len (v : Dv) : ∀ (gs : List Nat) (h : Int) (a : Nat), (statS v h a gs).length = gs.length
  | [], _, _ => rfl
  | g :: gs, h, a => by show (statS v _ g gs).length + 1 = _; rw [stat_len]; rfl
theorem stat_app (v : Dv) : ∀ (xs ys : List Nat) (h : Int) (a : Nat), statS v h a (xs ++ ys) = statS v h a xs ++ statS v (goS v h a xs).1 (goS v h a xs).2 ys
  | [], _, _, _ => rfl
  | g :: xs, ys, h, a => by
    show _ :: statS v _ g (xs ++ ys) = _
    rw [stat_app v xs ys]
    rfl
theorem movesOf_app (v : Dv) : ∀ (xs ys : List Nat) (h : Int) (a : Nat), movesOf a (xs ++ ys) = movesOf a xs ++ movesOf (goS v h a xs).2 ys
  | [], _, _, _ => rfl
  | g :: xs, ys, h, a => by
    show _ :: movesOf g (xs ++ ys) = _
    rw [movesOf_app v xs ys (reachH v h a g) g]
    rfl
theorem noStay_app (v : Dv) : ∀ (xs ys : List Nat) (h : Int) (a : Nat), NoStay a (xs ++ ys) → NoStay a xs ∧ NoStay (goS v h a xs).2 ys
  | [], _, _, _, ns => ⟨trivial, ns⟩
  | g :: xs, ys, h, a, ns => by
    obtain ⟨h1, h2⟩ := noStay_app v xs ys (reachH v h a g) g ns.2
    exact ⟨⟨ns.1, h1⟩, h2⟩
theorem movesOf_nz : ∀ (gs : List Nat) (a : Nat), NoStay a gs → ∀ m ∈ movesOf a gs, m ≠ 0
  | g :: gs, a, ns, m, hm => by
    rcases List.mem_cons.mp hm with e | e
    · have := ns.1; omega
    · exact movesOf_nz gs g ns.2 m e
theorem movesOf_bd : ∀ (gs : List Nat) (a : Nat), a ≤ R → (∀ g ∈ gs, g ≤ R) → ∀ m ∈ movesOf a gs, m.natAbs ≤ R
  | g :: gs, a, ha, hg, m, hm => by
    have g1 := hg g List.mem_cons_self
    rcases List.mem_cons.mp hm with e | e
    · omega
    · exact movesOf_bd gs g g1 (fun x hx => hg x (List.mem_cons_of_mem _ hx)) m e
theorem stat_hand : ∀ (gs : List Nat) (h : Int) (a : Nat), (∀ g ∈ gs, g ≤ R) → ∀ s ∈ statS v h a gs, 0 ≤ s.2 ∧ s.2 ≤ (R : Int)
  | g :: gs, h, a, hg, s, hs => by
    have g1 := hg g List.mem_cons_self
    rcases List.mem_cons.mp hs with e | e
    · rw [e]; exact ⟨by show (0 : Int) ≤ g; omega, by show (g : Int) ≤ R; omega⟩
    · exact stat_hand gs _ g (fun x hx => hg x (List.mem_cons_of_mem _ hx)) s e
theorem stat_last (v : Dv) (gs : List Nat) (h : Int) (a g : Nat) : statS v h a (gs ++ [g]) = statS v h a gs ++ [((goS v h a (gs ++ [g])).1, ((goS v h a (gs ++ [g])).2 : Int))] := by
  rw [stat_app, goS_app]
  rfl
theorem Grd.noStay (ok : v.Ok) {k : Nat} {h : Int} {a : Nat} {gs : List Nat} (t : Grd v R H k h a gs) (f : Few v R H k h a) : NoStay a gs := by
  induction t with
  | nil => trivial
  | cons hg hi _ _ ih =>
    obtain ⟨f2, ne⟩ := f.next ok hg hi
    exact ⟨ne, ih f2⟩
/-- no state ahead of the last one is high enough -/
theorem Grd.under (ok : v.Ok) {k : Nat} {h : Int} {a : Nat} {gs : List Nat} (aR : a ≤ R) (t : Grd v R H k h a gs) (f : Few v R H k h a) : ∀ s ∈ ((h, (a : Int)) :: statS v h a gs).dropLast, s.1 < H := by
  induction t with
  | nil => intro s hs; cases hs
  | @cons k h a g gs hg hi lo t ih =>
    obtain ⟨f2, ne⟩ := f.next ok hg hi
    intro s hs
    have e : ((h, (a : Int)) :: statS v h a (g :: gs)).dropLast = (h, (a : Int)) :: ((reachH v h a g, (g : Int)) :: statS v (reachH v h a g) g gs).dropLast := rfl
    rw [e] at hs
    rcases List.mem_cons.mp hs with z | z
    · rw [z]; exact f.lo 0 (Nat.succ_pos k)
    · exact ih hg f2 s z
theorem stat_held (ok : v.Ok) : ∀ (gs : List Nat) {h : Int} {a : Nat}, held v (h, (a : Int)) = true → held v ((goS v h a gs).1, ((goS v h a gs).2 : Int)) = true
  | [], _, _, hh => hh
  | g :: gs, h, a, hh => by
    refine stat_held ok gs (h := reachH v h a g) (a := g) ?_
    by_cases e : g = a
    · subst e; rw [reach_own ok]; exact hh
    · have := mv_held ok (h, (a : Int)) ((g : Int) - a) hh
      rw [reach_mv ok h e] at this
      exact this
theorem goS_bd (ok : v.Ok) (hR : R ≤ 24) : ∀ (gs : List Nat) {h : Int} {a : Nat}, a ≤ R → (∀ g ∈ gs, g ≤ R) → (goS v h a gs).1.natAbs ≤ h.natAbs + 24 * gs.length
  | [], _, _, _, _ => by simp [goS]
  | g :: gs, h, a, ha, hg => by
    have g1 := hg g List.mem_cons_self
    have r := reach_near ok h ha g1
    have := goS_bd ok hR gs (h := reachH v h a g) g1 fun x hx => hg x (List.mem_cons_of_mem _ hx)
    rw [List.length_cons]
    show (goS v (reachH v h a g) g gs).1.natAbs ≤ _
    omega
theorem stat_bd (ok : v.Ok) (hR : R ≤ 24) : ∀ (gs : List Nat) {h : Int} {a : Nat}, a ≤ R → (∀ g ∈ gs, g ≤ R) → ∀ s ∈ statS v h a gs, s.1.natAbs ≤ h.natAbs + 24 * gs.length
  | g :: gs, h, a, ha, hg, s, hs => by
    have g1 := hg g List.mem_cons_self
    have r := reach_near ok h ha g1
    rw [List.length_cons]
    rcases List.mem_cons.mp hs with e | e
    · rw [e]; show (reachH v h a g).natAbs ≤ _; omega
    · have := stat_bd ok hR gs (h := reachH v h a g) g1 (fun x hx => hg x (List.mem_cons_of_mem _ hx)) s e
      omega
theorem nrow_far (ok : v.Ok) : ∀ (k : Nat) {R2 : Nat}, R ≤ R2 → ∀ a, nrow v R2 H k a ≤ nrow v R H k a := fun k R2 hR a => by
  rw [nrow_iff ok]
  obtain ⟨gs, e1, e2, e3⟩ := (nrow_iff ok k (nrow v R H k a) a).mp (Int.le_refl _)
  exact ⟨gs, e1, fun g hg => Nat.le_trans (e2 g hg) hR, e3⟩
end
end PD

/-! PD85: moves told in parts -/
namespace PD
open PySem PySem.Spec PyProof.Rows L2 Evl
theorem cut_two (xs : List D) (j k : Nat) (hj : j ≤ xs.length) : PD.cutD xs (some (j : Int)) (some ((j + k : Nat) : Int)) = (xs.drop j).take k := by
  unfold PD.cutD
  rw [HT.sIx_nat, HT.sIx_nat, Nat.min_eq_left hj]
  by_cases h : j + k ≤ xs.length
  · rw [Nat.min_eq_left h]
    congr 1
    omega
  · rw [Nat.min_eq_right (by omega), List.take_of_length_le (l := xs.drop j) (i := k) (by rw [List.length_drop]; omega)]
    exact List.take_of_length_le (by rw [List.length_drop]; exact Nat.le_refl _)
theorem movesOf_take : ∀ (gs : List Nat) (a m : Nat), (movesOf a gs).take m = movesOf a (gs.take m)
  | [], _, m => by rw [List.take_nil]; exact List.take_nil
  | _ :: _, _, 0 => rfl
  | g :: gs, a, m + 1 => by
    show _ :: (movesOf g gs).take m = _ :: movesOf g (gs.take m)
    rw [movesOf_take]
theorem moves_cut (v : Dv) (h : Int) (a : Nat) (gs : List Nat) {j : Nat} (hj : j ≤ gs.length) (m : Nat) : ((movesOf a gs).drop j).take m = movesOf (goS v h a (gs.take j)).2 ((gs.drop j).take m) := by
  have e : movesOf a gs = movesOf a (gs.take j) ++ movesOf (goS v h a (gs.take j)).2 (gs.drop j) := by
    rw [← movesOf_app v (gs.take j) (gs.drop j) h a, List.take_append_drop]
  have l : (movesOf a (gs.take j)).length = j := by rw [movesOf_len, List.length_take]; omega
  rw [e, List.drop_append_of_le_length (by omega), List.drop_of_length_le (by omega), List.nil_append, movesOf_take]
theorem stat_end (v : Dv) (h : Int) (a : Nat) (gs : List Nat) : ∃ init : List Sv, (h, (a : Int)) :: statS v h a gs = init ++ [((goS v h a gs).1, ((goS v h a gs).2 : Int))] := by
  by_cases e : gs = []
  · subst e; exact ⟨[], rfl⟩
  · have sp := (List.dropLast_concat_getLast e).symm
    rw [sp]
    rw [stat_last]
    exact ⟨(h, (a : Int)) :: statS v h a gs.dropLast, rfl⟩
end PD

/-! PD86: pumping as a way; a higher bar's rows; a way that climbs -/
namespace PD
open PySem PySem.Spec PyProof.Rows L2 Evl
section
variable {v : Dv} {R : Nat}
def altG (a g : Nat) : Nat → List Nat
  | 0 => []
  | n + 1 => altG a g n ++ [g, a]
theorem altG_len (a g : Nat) : ∀ n, (altG a g n).length = 2 * n
  | 0 => rfl
  | n + 1 => by
    show (altG a g n ++ [g, a]).length = _
    rw [List.length_append, altG_len a g n]
    rfl
theorem altG_in {a g : Nat} (ha : a ≤ R) (hg : g ≤ R) : ∀ n, ∀ y ∈ altG a g n, y ≤ R
  | n + 1, y, hy => by
    rcases List.mem_append.mp (show y ∈ altG a g n ++ [g, a] from hy) with h | h
    · exact altG_in ha hg n y h
    · simp only [List.mem_cons, List.not_mem_nil, or_false] at h
      rcases h with rfl | rfl <;> assumption
theorem altG_go (ok : v.Ok) {a g : Nat} (ne : g ≠ a) {m m' : Int} (hm : m = (g : Int) - (a : Int)) (hm' : m' = (a : Int) - (g : Int)) (h : Int) : ∀ n, rp v [m, m'] (h, (a : Int)) n = ((goS v h a (altG a g n)).1, (a : Int)) ∧ (goS v h a (altG a g n)).2 = a
  | 0 => ⟨rfl, rfl⟩
  | n + 1 => by
    obtain ⟨e1, e2⟩ := altG_go ok ne hm hm' h n
    have e3 : goS v h a (altG a g (n + 1)) = goS v (goS v h a (altG a g n)).1 (goS v h a (altG a g n)).2 [g, a] := goS_app v _ _ _ _
    rw [e2] at e3
    have e4 : rp v [m, m'] (h, (a : Int)) (n + 1) = mv v (mv v (rp v [m, m'] (h, (a : Int)) n) m) m' := rfl
    rw [e4, e3, e1, hm, reach_mv ok _ ne, hm', reach_mv ok _ (Ne.symm ne)]
    exact ⟨rfl, rfl⟩
theorem goS_mono (ok : v.Ok) : ∀ (gs : List Nat) {h h' : Int} {a : Nat}, h ≤ h' → (goS v h a gs).1 ≤ (goS v h' a gs).1 ∧ (goS v h a gs).2 = (goS v h' a gs).2
  | [], _, _, _, hh => ⟨hh, rfl⟩
  | g :: gs, _, _, a, hh => goS_mono ok gs (reach_mono ok hh a g)
/-- a higher bar over the same hand has no lower best heights, and the same hands -/
theorem it_order (ok : v.Ok) {a : Nat} (ha : a ≤ R) {h h' : Int} (hh : h ≤ h') (n g : Nat) :
    ((∃ x, (itT v (startT R a h) n)[g]? = some (some x)) ↔ ∃ x, (itT v (startT R a h') n)[g]? = some (some x)) ∧ ∀ x y, (itT v (startT R a h) n)[g]? = some (some x) → (itT v (startT R a h') n)[g]? = some (some y) → x ≤ y := by
  have up : ∀ x, (itT v (startT R a h) n)[g]? = some (some x) → ∃ y, (itT v (startT R a h') n)[g]? = some (some y) ∧ x ≤ y := fun x e => by
    obtain ⟨gs, e1, e2, e3⟩ := it_sound ok ha e
    obtain ⟨y, f1, f2⟩ := it_comp (h := h') ok ha n e1 e2
    obtain ⟨m1, m2⟩ := goS_mono ok gs (a := a) hh
    rw [← m2, e3] at f1
    rw [e3] at m1
    exact ⟨y, f1, Int.le_trans m1 f2⟩
  refine ⟨⟨fun ⟨x, e⟩ => ?_, fun ⟨x, e⟩ => ?_⟩, fun x y e f => ?_⟩
  · obtain ⟨y, f, _⟩ := up x e
    exact ⟨y, f⟩
  · obtain ⟨gs, e1, e2, e3⟩ := it_sound ok ha e
    obtain ⟨y, f1, f2⟩ := it_comp (h := h) ok ha n e1 e2
    obtain ⟨m1, m2⟩ := goS_mono ok gs (a := a) hh
    rw [m2, e3] at f1
    exact ⟨y, f1⟩
  · obtain ⟨y', f1, f2⟩ := up x e
    rw [f] at f1
    cases f1
    exact f2
/-- a round that climbs climbs over any height -/
theorem climb_high (ok : v.Ok) {ms : List Int} {palm t b : Int} (s0 : ms.sum = 0) (mn : Mean v ms palm t b) (t0 : 0 < t) (x K : Int) : ∃ n, K ≤ (rp v ms (x, palm) n).1 := by
  obtain ⟨cm, _⟩ := com_lcmV ok
  have L0 := cm.pos
  obtain ⟨n, hn⟩ : ∃ n : Nat, K - x + lcmV v ≤ (n : Int) := ⟨(K - x + lcmV v).toNat, by omega⟩
  have nr := (near ok cm s0 mn n x).1
  have nt : (n : Int) * 1 ≤ (n : Int) * t := Int.mul_le_mul_of_nonneg_left (by omega) (by omega)
  refine ⟨n * b.toNat, ?_⟩
  show K ≤ hx v ms palm x (n * b.toNat)
  omega
/-- where a span within the reach climbs, all heights are reached -/
theorem climb_reach (ok : v.Ok) {a w : Nat} (ha : a ≤ R) (w1 : 1 ≤ w) (hw : w ≤ R) {t b : Int} (mn : Mean v [(w : Int), -(w : Int)] 0 t b) (t0 : 0 < t) (h H : Int) : ∃ n, nrow v R H n a ≤ h := by
  obtain ⟨n, hn⟩ := climb_high ok (by show (w : Int) + (-(w : Int) + 0) = 0; omega) mn t0 (reachH v h a 0) H
  obtain ⟨e1, e2⟩ := altG_go ok (show w ≠ 0 by omega) (m := (w : Int)) (m' := -(w : Int)) (by omega) (by omega) (reachH v h a 0) n
  refine ⟨1 + 2 * n, (nrow_iff ok _ _ _).mpr ⟨0 :: altG 0 w n, ?_, ?_, ?_⟩⟩
  · rw [List.length_cons, altG_len]; omega
  · intro g hg
    rcases List.mem_cons.mp hg with rfl | hg
    · exact Nat.zero_le _
    · exact altG_in (Nat.zero_le _) hw n g hg
  · show H ≤ (goS v (reachH v h a 0) 0 (altG 0 w n)).1
    have e1' : rp v [(w : Int), -(w : Int)] (reachH v h a 0, 0) n = ((goS v (reachH v h a 0) 0 (altG 0 w n)).1, ((0 : Nat) : Int)) := e1
    rw [e1'] at hn
    exact hn
/-- moves between hands, as a way -/
theorem mvs_go (ok : v.Ok) : ∀ (gs : List Nat) (h : Int) (a : Nat), NoStay a gs → mvs v (h, (a : Int)) (movesOf a gs) = ((goS v h a gs).1, ((goS v h a gs).2 : Int))
  | [], _, _, _ => rfl
  | g :: gs, h, a, ns => by
    show mvs v (mv v (h, (a : Int)) ((g : Int) - a)) (movesOf g gs) = _
    rw [reach_mv ok h ns.1]
    exact mvs_go ok gs _ g ns.2
end
end PD

/-! PD87: two names from a list of two; ways by one more -/
namespace PD
open PySem PySem.Spec PyProof.Rows L2 Evl
/-- a, b = a list -/
theorem ws_unpL {c : Cn} {K : PySem.W.Frag} {ds : DS} {pl : List D} {te : TE} {E : EE} {i j n : Nat} (hn : n = 2) (h : WE c te ds pl (isD fun d p1 => ∃ x y, d = .list [x, y] ∧ E.nx ((ds.set i (some (.d x))).set j (some (.d y))) p1)) :
    WS c (tAsg te (gLst K n (gCons (gName i) (gCons (gName j) gNil)))) ds pl E := by
  subst hn
  exact fun G σ H hs D' f =>
  h G σ H hs _ fun v G1 H1 w p1 h1 e1 f1 g1 => by
    match w, f1, g1 with
    | .d d, f1, ⟨x, y, ed, g1⟩ =>
      subst ed
      cases f1 with
      | lst a b =>
        cases b with
        | cons r1 b =>
          cases b with
          | cons r2 b =>
            cases b
            refine ⟨_, _, rfl, SqL.of (h1.sub _ _ a), rfl, _, _, rfl, _, _, rfl, rfl, ?_⟩
            exact f.nx G1 _ H1 _ p1 ((h1.set (w := .d x) r1 fun xs z => by cases z).set (w := .d y) r2 fun xs z => by cases z) e1 g1
theorem noStay_snoc (v : Dv) : ∀ (gs : List Nat) (h : Int) (a g : Nat), NoStay a gs → g ≠ (goS v h a gs).2 → NoStay a (gs ++ [g])
  | [], _, _, _, _, ne => ⟨ne, trivial⟩
  | x :: gs, h, a, g, ns, ne => ⟨ns.1, noStay_snoc v gs (reachH v h a x) x g ns.2 ne⟩
end PD

/-! PD88: the law's end with bounded cells; products of cells; a device upside down -/
namespace PD
open PySem PySem.Spec PyProof.Rows L2 Evl
open Builtin.Int (intBits)
section
variable {X : Cx}
theorem op_mulK : OpR X (binaryOp .Mult) (rI IntMulOk fun i j => .int (i * j)) := opI fun _ _ _ _ _ _ _ hc q => mul_int q hc
end
section
variable {c : Cn} {K : PySem.W.Frag} {ds : DS} {Φ : W → List D → Prop}
theorem os_mulK {i j : Int} {p2 : List D} (hc : IntMulOk i j) (h : Φ (.d (.int (i * j))) p2) : OpS c (rI IntMulOk fun i j => .int (i * j)) ds (.int i) (.int j) p2 Φ := os_I (g := fun i j => .int (i * j)) hc rfl h
end
theorem mul_bits {i j : Int} {m n : Nat} (ha : intBits i ≤ m) (hb : j.natAbs < 2 ^ n) (h : m + n ≤ 134217728) : IntMulOk i j := IntMulOk.of_le ha (intBits_le_iff.mpr hb) h
section
variable {P : Program} {w : World} {K : PySem.W.Frag} {mg : Str → Option Value} {base : Heap} {f : Addr} {fd : FuncData} {ps : List Str} {k : Nat}
/-- the law itself, its cells bounded -/
def spLawB (K : PySem.W.Frag) : Sp := fun vs H Q _ => ∃ (a : Addr) (ns : List Int), vs = [.ref a] ∧ SqL K H a (ns.map V.int) ∧ ns.length ≤ 63 ∧ (∀ z ∈ ns, intBits z ≤ 1048576) ∧ ∀ H', Q (.bl true) H'
theorem fgLawB {x qual : Str} {st : Stmt} {N : List Str} (Fn : Fun K x qual st f fd) (S : FnScope N ps (defScope st)) (len : ps.length = 1)
    (go : ∀ (cdv : Value) (B : Around) (fr : List Env) (s : Shared) (H : Hp) (E : XK), B.guards = some [] → Room k (B.deeper (envOfC qual (defScope st) s.heap.objs.size f cdv)) → ∃ t, PSs (cxOf CX0 P w K mg base N qual (defScope st) f cdv B fr s H E).nox (defBody st) t ∧
      ∀ c a (ns : List Int), c.pool = none → Scr K c a ns → ns.length ≤ 63 → (∀ z ∈ ns, intBits z ≤ 1048576) → WS c t ([W.v (.ref a)].map some ++ List.replicate (N.length - 1) none) [] ⟨fun _ _ => False, rtD fun d => d = .bool true, fun _ _ => False, fun _ _ => False⟩) : FG P w K mg base (k + 1) f fd ps (spLawB K) := by
  refine fg_of Fn S (fun vs H Q E h => ?_) fun cdv B fr s H vs Q E hg hr h => ?_
  · obtain ⟨a, ns, rfl, _⟩ := h
    rw [len]
    rfl
  · obtain ⟨t, der, body⟩ := go cdv B fr s H E hg hr
    refine ⟨t, der, ?_⟩
    obtain ⟨a, ns, rfl, hS, hl, hb, h⟩ := h
    have st0 := hs_startW (G := fun _ => none) (H := H) (N := N) (vs := [.ref a]) (ws := [W.v (.ref a)]) (fun a o q => by cases q) rfl (fun j w q => by
      match j, q with
      | 0, q => cases q; exact ⟨_, rfl, .inr rfl⟩
      | j + 1, q => simp at q)
    refine body ⟨H, fun a => (none : Option HO) = none ∧ ∃ o, H a = some o, none, fun _ => none⟩ a ns rfl ⟨hS, by simp⟩ hl hb (fun _ => none) _ H st0 _ ⟨?_, ?_, ?_, ?_⟩
    · exact fun G' σ' H' ds' pl' h' e q => q.elim
    · intro v G' σ' H' ds' w' pl' h' e q g
      match w', q, g with
      | .d y, q, g =>
        have g' : y = .bool true := g
        subst g'
        cases q
        exact h H'
    · exact fun G' σ' H' ds' pl' h' e q => q.elim
    · exact fun G' σ' H' ds' pl' h' e q => q.elim
end
theorem fg_endB {l : PySem.W.OpenLaw} {n k : Nat} {q : Program} {loose : List Str} {XP : (Str → Option Value) → Heap → Prop} {YP : World → Heap → Prop} {d : DefRec} {K : Params → PySem.W.Frag} {sp : World → Sp} {x : Str} (many : l.most = some n)
    (small : n ≤ sizeLine) (nodef : d.params.defaults = []) (hr : Room k callerA) (lay : ∀ (w : World) (h : Heap), YP w h → (K w.params).In h)
    (F : ∀ (w : World) (mg : Str → Option Value) (fa : Addr) (h : Heap), (K w.params).In h → h.Ns mainGlobals mg → mg d.name = some (.ref fa) → ∃ fd : FuncData,
      (∀ (s : Shared) (u : Value), BindsTo s fd ⟨[u], []⟩ [(x, u)]) ∧ ∀ base : Heap, (K w.params).In base → base.Ns mainGlobals mg → FG l.prog w (K w.params) mg base k fa fd [x] (sp w))
    (want : ∀ (w : World) (H : Hp) (a : Addr) (ns : List Int), ns.length ≤ n → (∀ z ∈ ns, intBits z ≤ 1048576) → (∀ b u, H b = some u → ∃ o xs, u = .frz o (.lst xs)) → SqL (K w.params) H a (ns.map V.int) → sp w [.ref a] H (fun v _ => v = .bl true) E0) :
    PySem.W.WalkO q loose XP YP l.row.toRowW d [] (fun f vs => PySem.call f vs) := by
  refine Att.attach_callB many nodef ?_
  intro w s₀ s₁ mg mb fa o pm cd doc a vs ns G Y ho hd hcd hmg hobj hints hlen hbits hg
  obtain ⟨fd, hb, hF⟩ := F w mg fa _ (lay w _ Y) G.T.g hmg
  exact fg_law (lay w _ Y) G.T.g G.T.b G.T.builtins G.T.nolimit hg hobj hints (Nat.le_trans hlen small) hr hF hb fun H hO hS => want w H a ns hlen hbits hO hS
/-! ### a device upside down -/
/-- the one catches where the other catches at the heights below 0 as far, over hands from the reach down -/
structure Ovr (R : Nat) (v u : Dv) : Prop where
  g : ∀ y, caught u.1 y = caught v.1 (-y)
  h : ∀ y, caught u.2 y = caught v.2 (-y - (R : Int))
theorem Ovr.symm {R : Nat} {v u : Dv} (o : Ovr R v u) : Ovr R u v := ⟨fun y => by rw [o.g, Int.neg_neg], fun y => by rw [o.h]; congr 1; omega⟩
theorem Ovr.held {R : Nat} {v u : Dv} (o : Ovr R v u) (x a : Int) : held u (-x, (R : Int) - a) = held v (x, a) := by
  unfold PD.held
  show (caught u.1 (-x) || caught u.2 (-x - ((R : Int) - a))) = (caught v.1 x || caught v.2 (x - a))
  rw [o.g, o.h, Int.neg_neg]
  congr 2
  omega
/-- the catch below, upside down, is the catch above -/
theorem flo_neg {c e : Comb} (ok : c.Ok) (ok' : e.Ok) {d : Int} (h : ∀ y, caught e y = caught c (-y - d)) (n : Int) : flo e (-n - d) = -roo c n - d := by
  obtain ⟨a1, a2, a3⟩ := flo_spec ok' (-n - d)
  obtain ⟨b1, b2, b3⟩ := roo_spec ok n
  have k1 : caught e (-roo c n - d) = true := by
    rw [h]
    rw [show -(-roo c n - d) - d = roo c n by omega]
    exact b2
  have k2 : caught c (-(flo e (-n - d)) - d) = true := by rw [← h]; exact a2
  rcases Int.lt_trichotomy (flo e (-n - d)) (-roo c n - d) with z | z | z
  · have := a3 _ z (by omega)
    rw [k1] at this
    cases this
  · exact z
  · have := b3 _ (show n ≤ -(flo e (-n - d)) - d by omega) (by omega)
    rw [k2] at this
    cases this
section
variable {v u : Dv} {R : Nat}
theorem Ovr.reach (o : Ovr R v u) (ok : v.Ok) (ok' : u.Ok) (x : Int) {a g : Nat} (ha : a ≤ R) (hg : g ≤ R) : reachH u (-x) (R - g) (R - a) = -needH v (fun _ => x) a g := by
  have e1 : flo u.1 (-x) = -roo v.1 x := by
    have := flo_neg (d := 0) ok.1 ok'.1 (fun y => by rw [o.g]; congr 1; omega) x
    rw [Int.sub_zero, Int.sub_zero] at this
    exact this
  have e2 := flo_neg (d := (R : Int)) ok.2 ok'.2 o.h (x - (g : Int))
  unfold reachH needH slk
  show (if R - a < R - g then -x - min (((R - g : Nat) : Int) - ((R - a : Nat) : Int)) (-x - flo u.1 (-x)) else -x + max (((R - a : Nat) : Int) - ((R - g : Nat) : Int) - (-x - ((R - g : Nat) : Int) - flo u.2 (-x - ((R - g : Nat) : Int)))) 0) = -(if g < a then min (x + a - g) (roo v.1 x) else if a < g then min x (a + roo v.2 (x - g)) else x)
  by_cases q : g < a
  · rw [if_pos (show R - a < R - g by omega), if_pos q, e1]
    have := roo_near ok.1 x
    omega
  · by_cases q2 : a < g
    · rw [if_neg (show ¬ R - a < R - g by omega), if_neg q, if_pos q2, show -x - ((R - g : Nat) : Int) = -(x - (g : Int)) - (R : Int) by omega, e2]
      have := roo_near ok.2 (x - (g : Int))
      omega
    · have ea : a = g := by omega
      subst ea
      rw [if_neg (Nat.lt_irrefl _), if_neg q, if_neg q2, show -x - ((R - a : Nat) : Int) = -(x - (a : Int)) - (R : Int) by omega, e2]
      have := roo_near ok.2 (x - (a : Int))
      omega
theorem Ovr.step (o : Ovr R v u) (ok : v.Ok) (ok' : u.Ok) (x h : Int) {a g : Nat} (ha : a ≤ R) (hg : g ≤ R) : x ≤ reachH v h a g ↔ -h ≤ reachH u (-x) (R - g) (R - a) := by
  have := needH_iff ok (fun _ => x) h a g
  rw [o.reach ok ok' x ha hg]
  constructor
  · intro z
    have := this.mpr z
    omega
  · intro z
    exact this.mp (by omega)
/-- a way upside down -/
def revG (R : Nat) : Nat → List Nat → List Nat
  | _, [] => []
  | a, g :: gs => revG R g gs ++ [R - a]
theorem revG_len (R : Nat) : ∀ (gs : List Nat) (a : Nat), (revG R a gs).length = gs.length
  | [], _ => rfl
  | g :: gs, a => by
    show (revG R g gs ++ [R - a]).length = _
    rw [List.length_append, revG_len R gs g]
    rfl
theorem revG_in : ∀ (gs : List Nat) (a : Nat), ∀ y ∈ revG R a gs, y ≤ R
  | g :: gs, a, y, hy => by
    rcases List.mem_append.mp (show y ∈ revG R g gs ++ [R - a] from hy) with z | z
    · exact revG_in gs g y z
    · rw [List.mem_singleton.mp z]; omega
theorem goS_at (v w : Dv) : ∀ (gs : List Nat) (h h' : Int) (a : Nat), (goS v h a gs).2 = (goS w h' a gs).2
  | [], _, _, _ => rfl
  | g :: gs, h, h', a => goS_at v w gs _ _ g
theorem Ovr.back (o : Ovr R v u) (ok : v.Ok) (ok' : u.Ok) : ∀ (gs : List Nat) (x h : Int) {a : Nat}, a ≤ R → (∀ g ∈ gs, g ≤ R) →
    (x ≤ (goS v h a gs).1 ↔ -h ≤ (goS u (-x) (R - (goS v h a gs).2) (revG R a gs)).1) ∧ (goS u (-x) (R - (goS v h a gs).2) (revG R a gs)).2 = R - a
  | [], x, h, a, _, _ => ⟨by show x ≤ h ↔ -h ≤ -x; omega, rfl⟩
  | g :: gs, x, h, a, ha, hg => by
    have g1 := hg g List.mem_cons_self
    obtain ⟨i1, i2⟩ := Ovr.back o ok ok' gs x (reachH v h a g) g1 fun y hy => hg y (List.mem_cons_of_mem _ hy)
    show (x ≤ (goS v (reachH v h a g) g gs).1 ↔ -h ≤ (goS u (-x) (R - (goS v (reachH v h a g) g gs).2) (revG R g gs ++ [R - a])).1) ∧ (goS u (-x) (R - (goS v (reachH v h a g) g gs).2) (revG R g gs ++ [R - a])).2 = R - a
    rw [goS_app, i2]
    obtain ⟨y, hy⟩ : ∃ y, (goS u (-x) (R - (goS v (reachH v h a g) g gs).2) (revG R g gs)).1 = y := ⟨_, rfl⟩
    rw [hy] at i1 ⊢
    refine ⟨?_, rfl⟩
    show _ ↔ -h ≤ reachH u y (R - g) (R - a)
    rw [i1]
    have st := o.step ok ok' (-y) h ha g1
    rw [Int.neg_neg] at st
    rw [← st]
    omega
theorem it_some (ok : v.Ok) {a : Nat} (ha : a ≤ R) (h : Int) (n g : Nat) : (∃ x, (itT v (startT R a h) n)[g]? = some (some x)) ↔ g ≤ R ∧ (g = a ∨ 1 ≤ n) := by
  constructor
  · rintro ⟨x, e⟩
    obtain ⟨gs, e1, e2, e3⟩ := it_sound ok ha e
    have gR := goS_hand v gs (h := h) ha e2
    rw [e3] at gR
    refine ⟨gR, ?_⟩
    rcases Nat.eq_zero_or_pos n with z | z
    · left
      rw [z] at e1
      rw [List.length_eq_zero_iff.mp e1] at e3
      exact (congrArg Prod.snd e3).symm
    · exact .inr z
  · rintro ⟨gR, hn⟩
    have stay : ∀ (k : Nat) (h : Int), (goS v h g (List.replicate k g)).2 = g := fun k => by
      induction k with
      | zero => exact fun _ => rfl
      | succ k ih => exact fun h => ih _
    have key : ∃ gs : List Nat, gs.length = n ∧ (∀ y ∈ gs, y ≤ R) ∧ (goS v h a gs).2 = g := by
      refine ⟨List.replicate n g, List.length_replicate, fun y hy => by rw [List.eq_of_mem_replicate hy]; exact gR, ?_⟩
      rcases hn with e | e
      · subst e; exact stay n h
      · obtain ⟨m, rfl⟩ : ∃ m, n = m + 1 := ⟨n - 1, by omega⟩
        exact stay m _
    obtain ⟨gs, e1, e2, e3⟩ := key
    obtain ⟨x, f1, _⟩ := it_comp (h := h) ok ha n e1 e2
    rw [e3] at f1
    exact ⟨x, f1⟩
theorem Ovr.half (o : Ovr R v u) (ok : v.Ok) (ok' : u.Ok) {a g : Nat} (ha : a ≤ R) {h x y z : Int} {n : Nat} (e : (itT v (startT R a h) n)[g]? = some (some x)) (f : (itT u (startT R (R - g) (-z)) n)[R - a]? = some (some y)) (le : z ≤ x) : -h ≤ y := by
  obtain ⟨gs, e1, e2, e3⟩ := it_sound ok ha e
  obtain ⟨b1, b2⟩ := o.back ok ok' gs z h ha e2
  rw [e3] at b1 b2
  obtain ⟨y', f1, f2⟩ := it_comp (h := -z) ok' (show R - g ≤ R by omega) n (gs := revG R a gs) (by rw [revG_len]; exact e1) (revG_in gs a)
  have b2 : (goS u (-z) (R - g) (revG R a gs)).2 = R - a := b2
  rw [b2, f] at f1
  cases f1
  exact Int.le_trans (b1.mp le) f2
/-- best heights upside down -/
theorem Ovr.best (o : Ovr R v u) (ok : v.Ok) (ok' : u.Ok) {a g : Nat} (ha : a ≤ R) (hg : g ≤ R) {h x y z : Int} {n : Nat} (e : (itT v (startT R a h) n)[g]? = some (some x)) (f : (itT u (startT R (R - g) (-z)) n)[R - a]? = some (some y)) : z ≤ x ↔ -h ≤ y := by
  refine ⟨o.half ok ok' ha e f, fun le => ?_⟩
  have := o.symm.half (a := R - g) (g := R - a) (h := -z) (z := -h) ok' ok (by omega) f (by rw [show R - (R - a) = a by omega, show R - (R - g) = g by omega, Int.neg_neg]; exact e) le
  omega
end
end PD

/-! PD89: a list from its end -/
namespace PD
open PySem PySem.Spec PyProof.Rows L2 Evl
theorem RA.app2 {G : Hp} {us : List V} {vs : List V} {xs ys : List D} (h : RA G us xs) (k : RA G vs ys) : RA G (us ++ vs) (xs ++ ys) := by
  induction xs generalizing us with
  | nil =>
    cases h
    exact k
  | cons x xs ih =>
    cases h with
    | cons r b => exact .cons r (ih b)
theorem RA.rev {G : Hp} : ∀ {xs : List D} {us : List V}, RA G us xs → RA G us.reverse xs.reverse
  | [], us, h => by
    cases h
    exact .nil
  | x :: xs, us, h => by
    cases h with
    | cons r b =>
      rw [List.reverse_cons, List.reverse_cons]
      exact (RA.rev b).app2 (.cons r .nil)
theorem we_revL {c : Cn} {K : PySem.W.Frag} {ds : DS} {pl : List D} {Φ : W → List D → Prop} {ta : TE} (ha : WE c ta ds pl (isD fun x p1 => ∃ xs, x = .list xs ∧ Φ (.d (.list xs.reverse)) p1)) : WE c (tRevL K ta) ds pl Φ := fun G σ H hs Q q =>
  ha G σ H hs _ fun v G1 H1 w p1 h1 e1 f1 g1 => by
    match w, f1, g1 with
    | .d x, f1, ⟨xs, ex, g1⟩ =>
      subst ex
      cases f1 with
      | lst a b =>
        refine ⟨_, _, rfl, SqL.of (h1.sub _ _ a), fun l hl => ?_⟩
        have n := h1.none_of hl
        exact q _ _ _ (.d _) p1 (h1.newD hl) (e1.trans (Ex.new n.1)) (R.lst upd_same (b.rev.up (Ex.new n.1))) g1
/-! ### ways upside down, their moves and states -/
section
variable {v : Dv} {R : Nat}
/-- the last hand of a way -/
def lastH : Nat → List Nat → Nat
  | a, [] => a
  | _, g :: gs => lastH g gs
theorem goS_last (v : Dv) : ∀ (gs : List Nat) (h : Int) (a : Nat), (goS v h a gs).2 = lastH a gs
  | [], _, _ => rfl
  | g :: gs, _, _ => goS_last v gs _ g
theorem lastH_app : ∀ (xs ys : List Nat) (a : Nat), lastH a (xs ++ ys) = lastH (lastH a xs) ys
  | [], _, _ => rfl
  | x :: xs, ys, _ => lastH_app xs ys x
theorem movesH_app : ∀ (xs ys : List Nat) (a : Nat), movesOf a (xs ++ ys) = movesOf a xs ++ movesOf (lastH a xs) ys
  | [], _, _ => rfl
  | x :: xs, ys, a => by
    show _ :: movesOf x (xs ++ ys) = _
    rw [movesH_app xs ys x]
    rfl
theorem lastH_in : ∀ (gs : List Nat) {a : Nat}, a ≤ R → (∀ g ∈ gs, g ≤ R) → lastH a gs ≤ R
  | [], _, ha, _ => ha
  | g :: gs, _, _, hg => lastH_in gs (hg g List.mem_cons_self) fun y hy => hg y (List.mem_cons_of_mem _ hy)
theorem lastH_rev : ∀ (gs : List Nat) (a : Nat), lastH (R - lastH a gs) (revG R a gs) = R - a
  | [], _ => rfl
  | g :: gs, a => by
    show lastH _ (revG R g gs ++ [R - a]) = _
    rw [lastH_app]
    rfl
theorem moves_rev : ∀ (gs : List Nat) {a : Nat}, a ≤ R → (∀ g ∈ gs, g ≤ R) → movesOf (R - lastH a gs) (revG R a gs) = (movesOf a gs).reverse
  | [], _, _, _ => rfl
  | g :: gs, a, ha, hg => by
    have g1 := hg g List.mem_cons_self
    show movesOf (R - lastH g gs) (revG R g gs ++ [R - a]) = (((g : Int) - (a : Int)) :: movesOf g gs).reverse
    rw [movesH_app, moves_rev gs g1 fun y hy => hg y (List.mem_cons_of_mem _ hy), lastH_rev, List.reverse_cons]
    congr 1
    show [((R - a : Nat) : Int) - ((R - g : Nat) : Int)] = _
    rw [show ((R - a : Nat) : Int) - ((R - g : Nat) : Int) = (g : Int) - (a : Int) by omega]
theorem noStayH_app : ∀ (xs ys : List Nat) (a : Nat), NoStay a xs → NoStay (lastH a xs) ys → NoStay a (xs ++ ys)
  | [], _, _, _, h => h
  | x :: xs, ys, _, h, k => ⟨h.1, noStayH_app xs ys x h.2 k⟩
theorem noStay_rev : ∀ (gs : List Nat) {a : Nat}, a ≤ R → (∀ g ∈ gs, g ≤ R) → NoStay a gs → NoStay (R - lastH a gs) (revG R a gs)
  | [], _, _, _, _ => trivial
  | g :: gs, a, ha, hg, ns => by
    have g1 := hg g List.mem_cons_self
    refine noStayH_app _ _ _ (noStay_rev gs g1 (fun y hy => hg y (List.mem_cons_of_mem _ hy)) ns.2) ?_
    show NoStay (lastH (R - lastH g gs) (revG R g gs)) [R - a]
    rw [lastH_rev]
    have := ns.1
    exact ⟨by omega, trivial⟩
end
end PD

/-! PD90: a comb upside down -/
namespace PD
open PySem PySem.Spec PyProof.Rows L2 Evl
theorem flip_key {p : Int} (d y t : Int) (t0 : 0 ≤ t) (t1 : t < p) : (0 - t - d) % p = y % p ↔ (-y - d) % p = t := by
  constructor
  · intro h
    obtain ⟨k, e⟩ := mod_eq_shift h
    rw [show -y - d = t + p * (-k) by rw [Int.mul_neg]; omega, Int.add_mul_emod_self_left]
    exact Int.emod_eq_of_lt t0 t1
  · intro h
    have e := Int.emod_add_mul_ediv (-y - d) p
    rw [h] at e
    rw [show 0 - t - d = y + p * ((-y - d) / p) by omega, Int.add_mul_emod_self_left]
theorem flip_ok {c : Comb} (ok : c.Ok) (d : Int) {f : Int → Int} (hf : ∀ t, f t = (0 - t - d) % c.p) {S : List Int} (pm : S.Perm (c.ts.map f)) (up : S.Pairwise (· ≤ ·)) :
    (Comb.mk c.p S).Ok ∧ ∀ y, caught (Comb.mk c.p S) y = caught c (-y - d) := by
  have p0 : 0 < c.p := by have := ok.p1; omega
  have mem : ∀ z, z ∈ S ↔ ∃ t ∈ c.ts, (0 - t - d) % c.p = z := fun z => by
    rw [pm.mem_iff, List.mem_map]
    exact ⟨fun ⟨t, ht, e⟩ => ⟨t, ht, by rw [← hf]; exact e⟩, fun ⟨t, ht, e⟩ => ⟨t, ht, by rw [hf]; exact e⟩⟩
  have nd0 : (c.ts.map f).Pairwise (· ≠ ·) := by
    rw [List.pairwise_map]
    refine List.Pairwise.imp_of_mem ?_ ok.up
    intro t t' ht ht' lt e
    rw [hf, hf] at e
    have h1 := (flip_key (p := c.p) d (0 - t' - d) t (ok.low t ht) (ok.high t ht)).mp e
    have h2 := (flip_key (p := c.p) d (0 - t' - d) t' (ok.low t' ht') (ok.high t' ht')).mp rfl
    omega
  have nd : S.Pairwise (· ≠ ·) := (pm.symm.pairwise nd0 fun h => Ne.symm h)
  refine ⟨⟨ok.p1, ok.p24, fun e => ?_, fun z hz => ?_, fun z hz => ?_, ?_⟩, fun y => ?_⟩
  · obtain ⟨t, r, et⟩ : ∃ t r, c.ts = t :: r := by
      cases q : c.ts with
      | nil => exact absurd q ok.ne
      | cons a r => exact ⟨a, r, rfl⟩
    have : (0 - t - d) % c.p ∈ S := (mem _).mpr ⟨t, by rw [et]; exact List.mem_cons_self, rfl⟩
    have e' : S = [] := e
    rw [e'] at this
    cases this
  · obtain ⟨t, _, rfl⟩ := (mem z).mp hz
    exact Int.emod_nonneg _ (by omega)
  · obtain ⟨t, _, rfl⟩ := (mem z).mp hz
    exact Int.emod_lt_of_pos _ p0
  · exact (up.and nd).imp fun ⟨a, b⟩ => by
      have a' := a
      have b' := b
      omega
  · unfold caught
    show decide (y % c.p ∈ S) = decide ((-y - d) % c.p ∈ c.ts)
    congr 1
    refine propext ((mem _).trans ⟨fun ⟨t, ht, e⟩ => ?_, fun h => ⟨_, h, ?_⟩⟩)
    · rw [(flip_key (p := c.p) d y t (ok.low t ht) (ok.high t ht)).mp e]
      exact ht
    · exact (flip_key (p := c.p) d y _ (ok.low _ h) (ok.high _ h)).mpr rfl
theorem caught_tooth {c : Comb} (ok : c.Ok) {t : Int} (ht : t ∈ c.ts) (k : Int) : caught c (t + c.p * k) = true := by
  unfold caught
  rw [Int.add_mul_emod_self_left, Int.emod_eq_of_lt (ok.low t ht) (ok.high t ht)]
  exact decide_eq_true ht
/-- the ground catches near -/
theorem caught_near {c : Comb} (ok : c.Ok) (n : Int) : ∃ x, n ≤ x ∧ x ≤ n + 23 ∧ caught c x = true := by
  obtain ⟨a1, a2, a3⟩ := flo_spec ok (n + 23)
  have := slk_lt ok (n + 23)
  unfold slk at this
  have := ok.p24
  exact ⟨flo c (n + 23), by omega, a1, a2⟩
end PD

/-! PD91: moves and rounds upside down -/
namespace PD
open PySem PySem.Spec PyProof.Rows L2 Evl
section
variable {v u : Dv}
theorem Ovr.mv (o : Ovr 0 v u) (ok : v.Ok) (ok' : u.Ok) (x h a m : Int) : x ≤ (PD.mv v (h, a) m).1 ↔ -h ≤ (PD.mv u (-x, -(a + m)) m).1 := by
  by_cases q : 0 < m
  · have e2 := flo_neg (d := 0) ok.2 ok'.2 (fun y => by rw [o.h]; rfl) (x - a - m)
    rw [Int.sub_zero, Int.sub_zero] at e2
    have g := roo_le ok.2 (x - a - m) (h - a)
    rw [mv_up' q, mv_up' q]
    unfold slk lf
    show x ≤ h + m - min m (h - a - flo v.2 (h - a)) ↔ -h ≤ -x + m - min m (-x - -(a + m) - flo u.2 (-x - -(a + m)))
    rw [show -x - -(a + m) = -(x - a - m) by omega, e2]
    constructor
    · intro z
      rcases Int.lt_or_le h x with w | w
      · have := g.mp (by omega); omega
      · omega
    · intro z
      rcases Int.lt_or_le h x with w | w
      · have := g.mpr (by omega); omega
      · omega
  · have e1 := flo_neg (d := 0) ok.1 ok'.1 (fun y => by rw [o.g, Int.sub_zero]) x
    rw [Int.sub_zero, Int.sub_zero] at e1
    have g := roo_le ok.1 x h
    rw [mv_down' q, mv_down' q]
    unfold slk
    show x ≤ h - min (-m) (h - flo v.1 h) ↔ -h ≤ -x - min (-m) (-x - flo u.1 (-x))
    rw [e1]
    constructor
    · intro z
      rcases Int.lt_or_le (h + m) x with w | w
      · have := g.mp (by omega); omega
      · omega
    · intro z
      rcases Int.lt_or_le (h + m) x with w | w
      · have := g.mpr (by omega); omega
      · omega
theorem sum_rev : ∀ ms : List Int, ms.reverse.sum = ms.sum
  | [] => rfl
  | m :: ms => by
    rw [List.reverse_cons, List.sum_append, sum_rev ms, List.sum_cons]
    show ms.sum + (m + 0) = m + ms.sum
    omega
theorem Ovr.mvs (o : Ovr 0 v u) (ok : v.Ok) (ok' : u.Ok) : ∀ (ms : List Int) (x h a : Int), x ≤ (PD.mvs v (h, a) ms).1 ↔ -h ≤ (PD.mvs u (-x, -(a + ms.sum)) ms.reverse).1
  | [], x, h, a => by
    show x ≤ h ↔ -h ≤ -x
    omega
  | m :: ms, x, h, a => by
    have ih := Ovr.mvs o ok ok' ms x (PD.mv v (h, a) m).1 (a + m)
    have e0 : PD.mv v (h, a) m = ((PD.mv v (h, a) m).1, a + m) := Prod.ext rfl (mv_hand v (h, a) m)
    show x ≤ (PD.mvs v (PD.mv v (h, a) m) ms).1 ↔ _
    rw [e0, ih, List.reverse_cons, mvs_app, List.sum_cons, show -(a + m + ms.sum) = -(a + (m + ms.sum)) by omega]
    have eh := mvs_hand u ms.reverse (-x, -(a + (m + ms.sum)))
    rw [sum_rev] at eh
    obtain ⟨y, hy⟩ : ∃ y, (PD.mvs u (-x, -(a + (m + ms.sum))) ms.reverse).1 = y := ⟨_, rfl⟩
    have e1 : PD.mvs u (-x, -(a + (m + ms.sum))) ms.reverse = (y, -(a + m)) := Prod.ext hy (by rw [eh]; show -(a + (m + ms.sum)) + ms.sum = -(a + m); omega)
    rw [hy, e1]
    have st := o.mv ok ok' (-y) h a m
    rw [Int.neg_neg] at st
    show _ ↔ -h ≤ (PD.mv u (y, -(a + m)) m).1
    rw [← st]
    omega
theorem Ovr.hx (o : Ovr 0 v u) (ok : v.Ok) (ok' : u.Ok) {ms : List Int} (s0 : ms.sum = 0) (a : Int) : ∀ (k : Nat) (x h : Int), x ≤ PD.hx v ms a h k ↔ -h ≤ PD.hx u ms.reverse (-a) (-x) k
  | 0, x, h => by
    show x ≤ h ↔ -h ≤ -x
    omega
  | k + 1, x, h => by
    have ih := Ovr.hx o ok ok' s0 a k
    have e0 := hx_eta (v := v) (palm := a) s0 h k
    show x ≤ (PD.mvs v (rp v ms (h, a) k) ms).1 ↔ -h ≤ (rp u ms.reverse (-x, -a) (k + 1)).1
    rw [e0, o.mvs ok ok', s0, Int.add_zero, ← rp_front]
    have eh := mvs_hand u ms.reverse (-x, -a)
    rw [sum_rev, s0] at eh
    obtain ⟨y, hy⟩ : ∃ y, (PD.mvs u (-x, -a) ms.reverse).1 = y := ⟨_, rfl⟩
    have e1 : PD.mvs u (-x, -a) ms.reverse = (y, -a) := Prod.ext hy (by rw [eh]; show -a + 0 = -a; omega)
    rw [hy, e1]
    have st := ih (-y) h
    rw [Int.neg_neg] at st
    show _ ↔ -h ≤ PD.hx u ms.reverse (-a) y k
    rw [← st]
    omega
theorem Ovr.turn (o : Ovr 0 v u) : Ovr 0 u v := o.symm
theorem Ovr.heldN (o : Ovr 0 v u) (x a : Int) : PD.held u (-x, -a) = PD.held v (x, a) := by
  have := o.held x a
  rw [show ((0 : Nat) : Int) - a = -a by omega] at this
  exact this
/-- the first times from both ends -/
theorem Ovr.fst (o : Ovr 0 v u) (ok : v.Ok) (ok' : u.Ok) {ms : List Int} (s0 : ms.sum = 0) {a x h : Int} : ∀ {t : Option Nat}, Fst v ms (h, a) x t → Fst u ms.reverse (-x, -a) (-h) t
  | none, f => fun i => by
    have z := f i
    have g := o.hx ok ok' s0 a i x h
    show PD.hx u ms.reverse (-a) (-x) i < -h
    have z' : PD.hx v ms a h i < x := z
    rcases Int.lt_or_le (PD.hx u ms.reverse (-a) (-x) i) (-h) with w | w
    · exact w
    · have := g.mpr w; omega
  | some k, ⟨f, l⟩ => by
    refine ⟨(o.hx ok ok' s0 a k x h).mp f, fun i hi => ?_⟩
    have z := l i hi
    have g := o.hx ok ok' s0 a i x h
    show PD.hx u ms.reverse (-a) (-x) i < -h
    have z' : PD.hx v ms a h i < x := z
    rcases Int.lt_or_le (PD.hx u ms.reverse (-a) (-x) i) (-h) with w | w
    · exact w
    · have := g.mpr w; omega
theorem arch {c L : Int} (h : ∀ n : Nat, (n : Int) * c < L) : c ≤ 0 := by
  rcases Int.lt_or_le 0 c with z | z
  · have := h L.natAbs
    have : (L.natAbs : Int) * 1 ≤ (L.natAbs : Int) * c := Int.mul_le_mul_of_nonneg_left (by omega) (by omega)
    omega
  · exact z
theorem Ovr.mean_le (o : Ovr 0 v u) (ok : v.Ok) (ok' : u.Ok) {ms : List Int} (s0 : ms.sum = 0) {a t b t' b' : Int} (m : Mean v ms a t b) (m' : Mean u ms.reverse (-a) t' b') : t * b' ≤ t' * b := by
  obtain ⟨cm, _⟩ := com_lcmV ok
  obtain ⟨cm', _⟩ := com_lcmV ok'
  have b0 := m.b0
  have b0' := m'.b0
  have key : ∀ n : Nat, (n : Int) * (t * b' - t' * b) < lcmV v + lcmV u := fun n => by
    have n1 := (near ok cm s0 m (n * b'.toNat) 0).1
    have x0 : PD.hx v ms a 0 (n * b'.toNat * b.toNat) ≤ PD.hx v ms a 0 (n * b'.toNat * b.toNat) := Int.le_refl _
    have g := (o.hx ok ok' s0 a (n * b'.toNat * b.toNat) _ 0).mp x0
    have n2 := (near ok' cm' (by rw [sum_rev]; exact s0) m' (n * b.toNat) (-(PD.hx v ms a 0 (n * b'.toNat * b.toNat)))).2
    rw [show n * b.toNat * b'.toNat = n * b'.toNat * b.toNat by rw [Nat.mul_assoc, Nat.mul_comm b.toNat, ← Nat.mul_assoc]] at n2
    have c1 : ((n * b'.toNat : Nat) : Int) = (n : Int) * b' := by rw [Int.natCast_mul, Int.toNat_of_nonneg (by omega)]
    have c2 : ((n * b.toNat : Nat) : Int) = (n : Int) * b := by rw [Int.natCast_mul, Int.toNat_of_nonneg (by omega)]
    rw [c1] at n1
    rw [c2] at n2
    rw [Int.mul_sub, show (n : Int) * (t * b') = (n : Int) * b' * t by rw [Int.mul_assoc, Int.mul_comm t], show (n : Int) * (t' * b) = (n : Int) * b * t' by rw [Int.mul_assoc, Int.mul_comm t']]
    omega
  have := arch key
  omega
theorem low_uniq {t b t' b' : Int} (k1 : t * b' = t' * b) (t0 : 0 ≤ t) (b0 : 0 < b) (t0' : 0 ≤ t') (b0' : 0 < b') (low : Nat.gcd t.natAbs b.natAbs = 1) (low' : Nat.gcd t'.natAbs b'.natAbs = 1) : t = t' ∧ b = b' := by
  have kn : t.natAbs * b'.natAbs = t'.natAbs * b.natAbs := by rw [← Int.natAbs_mul, ← Int.natAbs_mul, k1]
  have d1 : b.natAbs ∣ b'.natAbs := by
    have c1 : Nat.Coprime b.natAbs t.natAbs := (Nat.gcd_comm _ _).trans low
    refine c1.dvd_of_dvd_mul_left ?_
    rw [kn]; exact Nat.dvd_mul_left _ _
  have d2 : b'.natAbs ∣ b.natAbs := by
    have c1 : Nat.Coprime b'.natAbs t'.natAbs := (Nat.gcd_comm _ _).trans low'
    refine c1.dvd_of_dvd_mul_left ?_
    rw [← kn]; exact Nat.dvd_mul_left _ _
  have eb := Nat.dvd_antisymm d1 d2
  have eb' : b = b' := by omega
  subst eb'
  exact ⟨Int.eq_of_mul_eq_mul_right (by omega) k1, rfl⟩
/-- one mean rise from both ends -/
theorem Ovr.mean (o : Ovr 0 v u) (ok : v.Ok) (ok' : u.Ok) {ms : List Int} (s0 : ms.sum = 0) {a t b t' b' : Int} (m : Mean v ms a t b) (m' : Mean u ms.reverse (-a) t' b') : t = t' ∧ b = b' := by
  have h1 := o.mean_le ok ok' s0 m m'
  have h2 := o.symm.mean_le (ms := ms.reverse) (a := -a) ok' ok (by rw [sum_rev]; exact s0) m' (by rw [List.reverse_reverse, Int.neg_neg]; exact m)
  exact low_uniq (by omega) m.t0 m.b0 m'.t0 m'.b0 m.low m'.low
theorem lcm_same (h1 : u.1.p = v.1.p) (h2 : u.2.p = v.2.p) : lcmV u = lcmV v := by
  unfold lcmV
  rw [h1, h2]
theorem Ovr.set_le (o : Ovr 0 v u) (ok : v.Ok) (ok' : u.Ok) (h1 : u.1.p = v.1.p) (h2 : u.2.p = v.2.p) {ms : List Int} (s0 : ms.sum = 0) (a : Int) (k : Nat) : (setl v ms a k).length ≤ (setl u ms.reverse (-a) k).length := by
  have L := lcm_same h1 h2
  obtain ⟨cm, _⟩ := com_lcmV ok
  have L0 := cm.pos
  have s0' : ms.reverse.sum = 0 := by rw [sum_rev]; exact s0
  -- a height in the image is its own least origin's image
  have org : ∀ y ∈ setl v ms a k, PD.hx v ms a (-(PD.hx u ms.reverse (-a) (-y) k)) k = y := fun y hy => by
    obtain ⟨x, hx', e⟩ := (mem_setl ok s0).mp hy
    have e' : PD.hx v ms a x k % lcmV v = y := e
    have e2 : y = PD.hx v ms a (x + lcmV v * -(PD.hx v ms a x k / lcmV v)) k := by
      rw [hx_up ok cm, ← e', Int.mul_neg]
      have := Int.emod_add_mul_ediv (PD.hx v ms a x k) (lcmV v)
      omega
    have g1 := (o.hx ok ok' s0 a k y _).mp (Int.le_of_eq e2)
    have g2 := (o.hx ok ok' s0 a k y (-(PD.hx u ms.reverse (-a) (-y) k))).mpr (by rw [Int.neg_neg]; exact Int.le_refl _)
    have mono := hx_mono (ms := ms) (palm := a) ok (show -(PD.hx u ms.reverse (-a) (-y) k) ≤ x + lcmV v * -(PD.hx v ms a x k / lcmV v) by omega) k
    rw [← e2] at mono
    omega
  have inj : ∀ y1 ∈ setl v ms a k, ∀ y2 ∈ setl v ms a k, gk u ms.reverse (-a) k (-y1) = gk u ms.reverse (-a) k (-y2) → y1 = y2 := fun y1 hy1 y2 hy2 e => by
    have o1 := org y1 hy1
    have o2 := org y2 hy2
    have e' : PD.hx u ms.reverse (-a) (-y1) k % lcmV u = PD.hx u ms.reverse (-a) (-y2) k % lcmV u := e
    rw [L] at e'
    obtain ⟨j, ej⟩ := mod_eq_shift e'
    rw [ej, show -(PD.hx u ms.reverse (-a) (-y1) k + lcmV v * j) = -(PD.hx u ms.reverse (-a) (-y1) k) + lcmV v * (-j) by rw [Int.mul_neg]; omega, hx_up ok cm, o1] at o2
    have r1 := heldL_rem ok (setl_held ok s0 hy1)
    have r2 := heldL_rem ok (setl_held ok s0 hy2)
    rw [← r1, ← r2, ← o2, Int.add_mul_emod_self_left]
  have into : ∀ y ∈ (setl v ms a k).map (fun y => gk u ms.reverse (-a) k (-y)), y ∈ setl u ms.reverse (-a) k := fun z hz => by
    obtain ⟨y, hy, rfl⟩ := List.mem_map.mp hz
    have hh : PD.held v (y, a) = true := by
      have := setl_held ok s0 hy
      unfold heldL PD.heldN at this
      exact (List.mem_filter.mp this).2
    rw [← o.heldN] at hh
    refine (mem_setl ok' s0').mpr ⟨(-y) % lcmV u, held_rem ok' hh, gk_rem ok' k (-y)⟩
  have nd : ((setl v ms a k).map (fun y => gk u ms.reverse (-a) k (-y))).Nodup := by
    rw [List.nodup_iff_pairwise_ne, List.pairwise_map]
    refine List.Pairwise.imp_of_mem ?_ (setl_up (v := v) (ms := ms) (arm := a) k)
    intro y1 y2 m1 m2 lt e
    have := inj y1 m1 y2 m2 e
    omega
  have := len_of_sub nd into
  rw [List.length_map] at this
  exact this
theorem Ovr.set_len (o : Ovr 0 v u) (ok : v.Ok) (ok' : u.Ok) (h1 : u.1.p = v.1.p) (h2 : u.2.p = v.2.p) {ms : List Int} (s0 : ms.sum = 0) (a : Int) (k : Nat) : (setl u ms.reverse (-a) k).length = (setl v ms a k).length := by
  have z1 := o.set_le ok ok' h1 h2 s0 a k
  have z2 := o.symm.set_le (ms := ms.reverse) ok' ok h1.symm h2.symm (by rw [sum_rev]; exact s0) (-a) k
  rw [List.reverse_reverse, Int.neg_neg] at z2
  exact Nat.le_antisymm z2 z1
theorem Ovr.settle (o : Ovr 0 v u) (ok : v.Ok) (ok' : u.Ok) (h1 : u.1.p = v.1.p) (h2 : u.2.p = v.2.p) {ms : List Int} (s0 : ms.sum = 0) {a : Int} {K : Nat} (st : Settle v ms a K) : Settle u ms.reverse (-a) K := by
  have len := o.set_len ok ok' h1 h2 s0 a
  exact ⟨by rw [len, len]; exact st.same, fun j hj => by rw [len, len]; exact st.less j hj⟩
theorem Ovr.held_len (o : Ovr 0 v u) (ok : v.Ok) (ok' : u.Ok) (h1 : u.1.p = v.1.p) (h2 : u.2.p = v.2.p) (a : Int) : (heldL u (-a)).length = (heldL v a).length := o.set_len (ms := []) ok ok' h1 h2 rfl a 0
/-- the states behind the beginnings of moves, from both ends -/
theorem Ovr.part (o : Ovr 0 v u) (ok : v.Ok) (ok' : u.Ok) (ms : List Int) (x h a : Int) (k : Nat) :
    (-(PD.mvs u (-x, -(a + ms.sum)) (ms.drop k).reverse).1 ≤ (PD.mvs v (h, a) (ms.take k)).1 ↔ x ≤ (PD.mvs v (h, a) ms).1) ∧ (PD.mvs v (h, a) (ms.take k)).2 = -(PD.mvs u (-x, -(a + ms.sum)) (ms.drop k).reverse).2 := by
  have sp : (ms.take k).sum + (ms.drop k).sum = ms.sum := by rw [← List.sum_append, List.take_append_drop]
  have e0 := mvs_hand v (ms.take k) (h, a)
  have e1 := mvs_hand u (ms.drop k).reverse (-x, -(a + ms.sum))
  rw [sum_rev] at e1
  obtain ⟨p, hp⟩ : ∃ p, (PD.mvs v (h, a) (ms.take k)).1 = p := ⟨_, rfl⟩
  have ep : PD.mvs v (h, a) (ms.take k) = (p, a + (ms.take k).sum) := Prod.ext hp e0
  have g := o.mvs ok ok' (ms.drop k) x p (a + (ms.take k).sum)
  rw [← ep, ← mvs_app, List.take_append_drop, show a + (ms.take k).sum + (ms.drop k).sum = a + ms.sum by omega] at g
  refine ⟨?_, ?_⟩
  · rw [hp, g]; omega
  · rw [e0, e1]
    show a + (ms.take k).sum = -(-(a + ms.sum) + (ms.drop k).sum)
    omega
theorem trail_at (v : Dv) (s : Sv) (ms : List Int) {k : Nat} (hk : k ≤ ms.length) : (s :: trail v s ms)[k]? = some (PD.mvs v s (ms.take k)) := by
  cases k with
  | zero => rfl
  | succ k =>
    show (trail v s ms)[k]? = _
    exact trail_get v s ms k (by omega)
theorem trail_back (u : Dv) (t : Sv) (ms : List Int) {k : Nat} (hk : k ≤ ms.length) : ((t :: trail u t ms.reverse).reverse)[k]? = some (PD.mvs u t (ms.drop k).reverse) := by
  have l : (t :: trail u t ms.reverse).length = ms.length + 1 := by rw [List.length_cons, trail_len, List.length_reverse]
  rw [List.getElem?_reverse (by omega), l, show ms.length + 1 - 1 - k = ms.length - k by omega, trail_at u t ms.reverse (by rw [List.length_reverse]; omega), List.take_reverse, show ms.length - (ms.length - k) = k by omega]
end
end PD

/-! PD92: plain combs -/
namespace PD
open PySem PySem.Spec PyProof.Rows L2 Evl
/-- a comb of the least pitch -/
def Plain (b : Comb) : Prop := b.Ok ∧ ∀ q, 1 ≤ q → q < b.p → b.p % q = 0 → ¬ Per b q
theorem per_own (b : Comb) : Per b b.p := fun n => by
  have := caught_up (c := b) n 1
  rw [Int.mul_one] at this
  exact this
theorem per_gcd {c : Comb} (p q : Nat) : Per c (p : Int) → Per c (q : Int) → Per c ((Nat.gcd p q : Nat) : Int) := by
  refine Nat.gcd.induction p q (fun n => ?_) fun m n m0 ih => ?_
  · intro _ hq
    rw [Nat.gcd_zero_left]
    exact hq
  · intro hm hn
    rw [Nat.gcd_rec]
    refine ih (fun x => ?_) hm
    have e := Int.emod_add_mul_ediv (n : Int) (m : Int)
    have e2 : ((n % m : Nat) : Int) = (n : Int) % (m : Int) := Int.natCast_emod n m
    rw [e2, show x + (n : Int) % (m : Int) = x + (n : Int) + (m : Int) * (-((n : Int) / (m : Int))) by rw [Int.mul_neg]; omega, hm.all, hn]
theorem Plain.uniq {b c : Comb} (pb : Plain b) (pc : Plain c) (same : ∀ n, caught b n = caught c n) : b = c := by
  have b1 := pb.1.p1
  have c1 := pc.1.p1
  have pcb : Per b c.p := fun n => by rw [same, same]; exact per_own c n
  have g := per_gcd (c := b) b.p.toNat c.p.toNat (by rw [Int.toNat_of_nonneg (by omega)]; exact per_own b) (by rw [Int.toNat_of_nonneg (by omega)]; exact pcb)
  obtain ⟨g9, hg9⟩ : ∃ y, Nat.gcd b.p.toNat c.p.toNat = y := ⟨_, rfl⟩
  have d1 : g9 ∣ b.p.toNat := by rw [← hg9]; exact Nat.gcd_dvd_left _ _
  have d2 : g9 ∣ c.p.toNat := by rw [← hg9]; exact Nat.gcd_dvd_right _ _
  have g1 : 0 < g9 := by rw [← hg9]; exact Nat.gcd_pos_of_pos_left _ (by omega)
  have l1 := Nat.le_of_dvd (by omega) d1
  have l2 := Nat.le_of_dvd (by omega) d2
  rw [hg9] at g
  have m1 : b.p % (g9 : Int) = 0 := by
    have := Int.natCast_emod b.p.toNat g9
    rw [Nat.mod_eq_zero_of_dvd d1, Int.toNat_of_nonneg (by omega)] at this
    exact this.symm
  have m2 : c.p % (g9 : Int) = 0 := by
    have := Int.natCast_emod c.p.toNat g9
    rw [Nat.mod_eq_zero_of_dvd d2, Int.toNat_of_nonneg (by omega)] at this
    exact this.symm
  have e1 : (g9 : Int) = b.p := by
    rcases Int.lt_or_eq_of_le (show (g9 : Int) ≤ b.p by omega) with z | z
    · exact absurd g (pb.2 g9 (by omega) z m1)
    · exact z
  have e2 : (g9 : Int) = c.p := by
    rcases Int.lt_or_eq_of_le (show (g9 : Int) ≤ c.p by omega) with z | z
    · exact absurd (fun n => by rw [← same, ← same]; exact g n) (pc.2 g9 (by omega) z m2)
    · exact z
  have ep : b.p = c.p := e1.symm.trans e2
  have et : b.ts = c.ts := asc_ext pb.1.up pc.1.up fun x => by
    constructor
    · intro hx
      have h0 := pb.1.low x hx
      have h1 := pb.1.high x hx
      exact (caught_in pc.1 h0 (by omega)).mp (by rw [← same]; exact (caught_in pb.1 h0 h1).mpr hx)
    · intro hx
      have h0 := pc.1.low x hx
      have h1 := pc.1.high x hx
      exact (caught_in pb.1 h0 (by omega)).mp (by rw [same]; exact (caught_in pc.1 h0 h1).mpr hx)
  cases b
  cases c
  cases ep
  cases et
  rfl
theorem plain_of {c b : Comb} (ob : b.Ok) (same : ∀ n, caught b n = caught c n) (h1 : b.p ≤ c.p) (h2 : c.p % b.p = 0) (h3 : ∀ q, 1 ≤ q → q < b.p → c.p % q = 0 → ¬ Per c q) : Plain b := by
  refine ⟨ob, fun q q1 qb qd per => h3 q q1 qb ?_ fun n => by rw [← same, ← same]; exact per n⟩
  have e1 := Int.mul_ediv_add_emod c.p b.p
  have e2 := Int.mul_ediv_add_emod b.p q
  rw [h2, Int.add_zero] at e1
  rw [qd, Int.add_zero] at e2
  rw [← e1, ← e2, Int.mul_assoc]
  exact Int.mul_emod_right _ _
theorem Plain.flip {c e : Comb} (pc : Plain c) (oe : e.Ok) (ep : e.p = c.p) {d : Int} (h : ∀ y, caught e y = caught c (-y - d)) : Plain e := by
  refine ⟨oe, fun q q1 qe qd per => pc.2 q q1 (by omega) (by rw [← ep]; exact qd) fun n => ?_⟩
  have a1 := h (-(n + q) - d)
  have a2 := h (-n - d)
  rw [show -(-(n + q) - d) - d = n + q by omega] at a1
  rw [show -(-n - d) - d = n by omega] at a2
  have a3 := per.all (-n - d) (-1)
  rw [show -n - d + q * -1 = -(n + q) - d by omega] at a3
  rw [← a1, ← a2, a3]
theorem eqv_comb (b c : Comb) : PyData.eqv b.d c.d = true ↔ b = c := by
  have e : PyData.eqv b.d c.d = ((b.p == c.p) && (PyData.eqv (.list (b.ts.map PyData.int)) (.list (c.ts.map PyData.int)) && true)) := rfl
  rw [e, eqv_ints, Bool.and_true, Bool.and_eq_true, decide_eq_true_eq, beq_iff_eq]
  constructor
  · rintro ⟨h1, h2⟩
    cases b
    cases c
    cases h1
    cases h2
    rfl
  · rintro rfl
    exact ⟨rfl, rfl⟩
theorem eqv_dev (v w : Dv) : PyData.eqv v.d w.d = true ↔ v = w := by
  have e : PyData.eqv v.d w.d = (PyData.eqv v.1.d w.1.d && (PyData.eqv v.2.d w.2.d && true)) := rfl
  rw [e, Bool.and_true, Bool.and_eq_true, eqv_comb, eqv_comb]
  exact ⟨fun ⟨h1, h2⟩ => Prod.ext h1 h2, fun h => ⟨congrArg Prod.fst h, congrArg Prod.snd h⟩⟩
/-- two places of a device look alike -/
def AlkS (v : Dv) (s : Sv) (w : Dv) (t : Sv) : Prop := (∀ n, caught v.1 (n + s.1) = caught w.1 (n + t.1)) ∧ ∀ n, caught v.2 (n + (s.1 - s.2)) = caught w.2 (n + (t.1 - t.2))
theorem Ovr.alk {v u : Dv} (o : Ovr 0 v u) (x y a : Int) : AlkS u (-x, -a) u (-y, -a) ↔ AlkS v (x, a) v (y, a) := by
  have e1 : ∀ n z, caught u.1 (n + -z) = caught v.1 (-n + z) := fun n z => by rw [o.g]; congr 1; omega
  have e2 : ∀ n z, caught u.2 (n + (-z - -a)) = caught v.2 (-n + (z - a)) := fun n z => by rw [o.h]; congr 1; omega
  constructor
  · rintro ⟨h1, h2⟩
    refine ⟨fun n => ?_, fun n => ?_⟩
    · have := h1 (-n)
      have a1 := e1 (-n) x
      have a2 := e1 (-n) y
      rw [Int.neg_neg] at a1 a2
      exact a1.symm.trans (this.trans a2)
    · have := h2 (-n)
      have a1 := e2 (-n) x
      have a2 := e2 (-n) y
      rw [Int.neg_neg] at a1 a2
      exact a1.symm.trans (this.trans a2)
  · rintro ⟨h1, h2⟩
    exact ⟨fun n => (e1 n x).trans ((h1 (-n)).trans (e1 n y).symm), fun n => (e2 n x).trans ((h2 (-n)).trans (e2 n y).symm)⟩
end PD

/-! PD93: a comb seen from elsewhere -/
namespace PD
open PySem PySem.Spec PyProof.Rows L2 Evl
theorem shift_key {p : Int} (d y t : Int) (t0 : 0 ≤ t) (t1 : t < p) : (t - d) % p = y % p ↔ (y + d) % p = t := by
  constructor
  · intro h
    obtain ⟨k, e⟩ := mod_eq_shift h
    rw [show y + d = t + p * k by omega, Int.add_mul_emod_self_left]
    exact Int.emod_eq_of_lt t0 t1
  · intro h
    have e := Int.emod_add_mul_ediv (y + d) p
    rw [h] at e
    rw [show y = t - d + p * ((y + d) / p) by omega, Int.add_mul_emod_self_left]
theorem shift_ok {c : Comb} (ok : c.Ok) (d : Int) {S : List Int} (pm : S.Perm (c.ts.map fun t => (t - d) % c.p)) (up : S.Pairwise (· ≤ ·)) :
    (Comb.mk c.p S).Ok ∧ ∀ y, caught (Comb.mk c.p S) y = caught c (y + d) := by
  have p0 : 0 < c.p := by have := ok.p1; omega
  have mem : ∀ z, z ∈ S ↔ ∃ t ∈ c.ts, (t - d) % c.p = z := fun z => by
    rw [pm.mem_iff, List.mem_map]
  have nd0 : (c.ts.map fun t => (t - d) % c.p).Pairwise (· ≠ ·) := by
    rw [List.pairwise_map]
    refine List.Pairwise.imp_of_mem ?_ ok.up
    intro t t' ht ht' lt e
    have h1 := (shift_key (p := c.p) d (t' - d) t (ok.low t ht) (ok.high t ht)).mp e
    have h2 := (shift_key (p := c.p) d (t' - d) t' (ok.low t' ht') (ok.high t' ht')).mp rfl
    omega
  have nd : S.Pairwise (· ≠ ·) := (pm.symm.pairwise nd0 fun h => Ne.symm h)
  refine ⟨⟨ok.p1, ok.p24, fun e => ?_, fun z hz => ?_, fun z hz => ?_, ?_⟩, fun y => ?_⟩
  · obtain ⟨t, r, et⟩ : ∃ t r, c.ts = t :: r := by
      cases q : c.ts with
      | nil => exact absurd q ok.ne
      | cons a r => exact ⟨a, r, rfl⟩
    have : (t - d) % c.p ∈ S := (mem _).mpr ⟨t, by rw [et]; exact List.mem_cons_self, rfl⟩
    have e' : S = [] := e
    rw [e'] at this
    cases this
  · obtain ⟨t, _, rfl⟩ := (mem z).mp hz
    exact Int.emod_nonneg _ (by omega)
  · obtain ⟨t, _, rfl⟩ := (mem z).mp hz
    exact Int.emod_lt_of_pos _ p0
  · exact (up.and nd).imp fun ⟨a, b⟩ => by
      have a' := a
      have b' := b
      omega
  · unfold caught
    show decide (y % c.p ∈ S) = decide ((y + d) % c.p ∈ c.ts)
    congr 1
    refine propext ((mem _).trans ⟨fun ⟨t, ht, e⟩ => ?_, fun h => ⟨_, h, ?_⟩⟩)
    · rw [(shift_key (p := c.p) d y t (ok.low t ht) (ok.high t ht)).mp e]
      exact ht
    · exact (shift_key (p := c.p) d y _ (ok.low _ h) (ok.high _ h)).mpr rfl
end PD

/-! PD94: new things handed back from within a loop; new plain combs -/
namespace PD
open PySem PySem.Spec PyProof.Rows L2 Evl
section
variable {c : Cn} {K : PySem.W.Frag} {ds : DS} {pl : List D} {t u : TS} {D' : Ends} {G0 : Hp} {E : EE} {tr : TA} {te : TE} {tt : TT}
theorem wsk_if (h : WT c tt ds pl fun b p1 => if b = true then WSK c t ds p1 D' G0 else WSK c u ds p1 D' G0) : WSK c (tIfS tt t u) ds pl D' G0 := fun G σ H hs e =>
  h G σ H hs _ fun b G2 H2 p2 h2 e2 g2 => by
    cases b with
    | true => exact (show WSK c t ds p2 D' G0 from g2) G2 σ H2 h2 (e.trans e2)
    | false => exact (show WSK c u ds p2 D' G0 from g2) G2 σ H2 h2 (e.trans e2)
theorem wsk_ret {Φ : W → List D → Prop} (h : WE c te ds pl Φ) (k : ∀ v G1 σ H1 w p1, HS c G1 σ H1 ds p1 → Ex G0 G1 → VW G1 H1 c v w → Φ w p1 → D'.rt v H1) : WSK c (tRet te) ds pl D' G0 := fun G σ H hs e =>
  h G σ H hs _ fun v G1 H1 w p1 h1 e1 f1 g1 => k v G1 σ H1 w p1 h1 (e.trans e1) f1 g1
theorem wsk_retW {F : List D → (Hp → V → Prop) → Prop} {Ek : XK} (hc : c.pool = none) (ha : WA c tr ds pl fun xs p1 => F xs fun P v => ∀ H', Ex c.H0 H' → Ex P H' → (∀ a o, P a = some o → c.H0 a = none) → D'.rt v H') (mono : ∀ xs k k', F xs k → (∀ P v, k P v → k' P v) → F xs k') :
    WSK c (tRet (tCall (spW F) [] Ek tr)) ds pl D' G0 := fun G σ H hs e =>
  ha G σ H hs _ fun vs G1 H1 xs p1 h1 e1 f1 g1 => by
    rw [List.append_nil]
    refine ⟨G1, xs, h1.sub, f1, mono xs _ _ g1 fun P v hk H' a1 a2 a3 => hk H' (fun a o z => ?_) a2 fun a o z => (h1.none_of (a3 a o z)).2.2.2.2⟩
    exact a1 _ _ (h1.keep a o (by rw [hc]; simp) z)
theorem wsk_forR2 {j : Nat} (I : Nat → DS → List D → Prop) (lo hi : Int) (h : WA c tr ds pl fun xs p1 => xs = [.int lo, .int hi] ∧ (-(2 ^ 62) ≤ lo ∧ lo < 2 ^ 62 ∧ -(2 ^ 62) ≤ hi ∧ hi < 2 ^ 62) ∧ I 0 ds p1)
    (hs : ∀ (i : Nat) ds' pl', i < (hi - lo).toNat → I i ds' pl' → ∀ D2 : Ends, D2.rt = D'.rt → (∀ G3 σ3 H3 ds3 pl3, HS c G3 σ3 H3 ds3 pl3 → Ex G0 G3 → I (i + 1) ds3 pl3 → D2.nx σ3 H3) → WSK c t (ds'.set j (some (.d (.int (lo + i))))) pl' D2 G0)
    (hd : ∀ ds' pl', I (hi - lo).toNat ds' pl' → WSK c u ds' pl' D' G0) : WSK c (tSeq (tFor (iRng2 tr) (gName j) t) u) ds pl D' G0 := fun G σ H h0 e0 => h G σ H h0 _ fun vs G1 H1 xs p1 h1 e1 f1 ⟨e, b1, g1⟩ => by
  subst e
  cases f1 with
  | cons r1 b =>
    cases b with
    | cons r2 b =>
      cases b
      cases r1
      cases r2
      refine ⟨lo, hi, rfl, b1, ?_⟩
      refine for_range (lo := lo) (n := (hi - lo).toNat) (g := gName j) (D := { D' with nx := u D' }) (fun i σ' H' => ∃ G' ds' pl', HS c G' σ' H' ds' pl' ∧ Ex G0 G' ∧ I i ds' pl') ⟨G1, _, p1, h1, e0.trans e1, g1⟩ ?_ ?_
      · rintro i σ' H' hx ⟨G', ds', pl', h2, e2, g2⟩
        refine hs i ds' pl' hx g2 { nx := fun σ' H' => ∃ G' ds' pl', HS c G' σ' H' ds' pl' ∧ Ex G0 G' ∧ I (i + 1) ds' pl', rt := D'.rt, bk := u D', ct := fun σ' H' => ∃ G' ds' pl', HS c G' σ' H' ds' pl' ∧ Ex G0 G' ∧ I (i + 1) ds' pl' } rfl ?_ G' _ H' (h2.set (w := .d (.int (lo + i))) (R.int _) fun xs z => by cases z) e2
        exact fun G3 σ3 H3 ds3 pl3 h3 e3 g3 => ⟨G3, ds3, pl3, h3, e3, g3⟩
      · rintro σ' H' ⟨G', ds', pl', h2, e2, g2⟩
        exact hd _ _ g2 G' σ' H' h2 e2
end
/-! ### promises of new combs and devices -/
def underF : List D → (Hp → V → Prop) → Prop := fun ds k => ∃ a : List Int × Int, ds = [.list (a.1.map PyData.int), .int a.2] ∧ a.1.length ≤ 24 ∧ ∀ la, k (one la (.lst ((under a.1 a.2).map V.int))) (.ref la)
theorem underF_mono : ∀ xs k k', underF xs k → (∀ P v, k P v → k' P v) → underF xs k' := fun _ _ _ ⟨a, e, l, h⟩ g => ⟨a, e, l, fun la => g _ _ (h la)⟩
def PlC (c b : Comb) : Prop := b.Ok ∧ (∀ n, caught b n = caught c n) ∧ b.p ≤ c.p ∧ c.p % b.p = 0 ∧ ∀ q, 1 ≤ q → q < b.p → c.p % q = 0 → ¬ Per c q
def plainF : List D → (Hp → V → Prop) → Prop := fun ds k => ∃ c : Comb, ds = [c.d] ∧ c.Ok ∧ ∀ (b : Comb) a la, a ≠ la → PlC c b → k (combP b a la) (.ref a)
theorem plainF_mono : ∀ xs k k', plainF xs k → (∀ P v, k P v → k' P v) → plainF xs k' := fun _ _ _ ⟨c, e, o, h⟩ g => ⟨c, e, o, fun b a la n q => g _ _ (h b a la n q)⟩
def shiftF : List D → (Hp → V → Prop) → Prop := fun ds k => ∃ z : Comb × Int, ds = [z.1.d, .int z.2] ∧ z.1.Ok ∧ ∀ (b : Comb) a la, a ≠ la → (Plain b ∧ ∀ n, caught b n = caught z.1 (n + z.2)) → k (combP b a la) (.ref a)
theorem shiftF_mono : ∀ xs k k', shiftF xs k → (∀ P v, k P v → k' P v) → shiftF xs k' := fun _ _ _ ⟨z, e, o, h⟩ g => ⟨z, e, o, fun b a la n q => g _ _ (h b a la n q)⟩
/-- b is what device v looks like from s -/
def PlD (v : Dv) (s : Sv) (b : Dv) : Prop := Plain b.1 ∧ Plain b.2 ∧ (∀ n, caught b.1 n = caught v.1 (n + s.1)) ∧ ∀ n, caught b.2 n = caught v.2 (n + (s.1 - s.2))
theorem PlD.uniq {v : Dv} {s : Sv} {b e : Dv} (h : PlD v s b) (g : PlD v s e) : b = e := Prod.ext (h.1.uniq g.1 fun n => by rw [h.2.2.1, g.2.2.1]) (h.2.1.uniq g.2.1 fun n => by rw [h.2.2.2, g.2.2.2])
def devF (pre : Dv → Sv → Prop) : List D → (Hp → V → Prop) → Prop := fun ds k => ∃ z : Dv × Sv, ds = [z.1.d, z.2.d] ∧ pre z.1 z.2 ∧ ∀ (b : Dv) t a e la lb, Mir (b.2, b.1) t a e la lb → PlD z.1 z.2 b → k (mirP (b.2, b.1) t a e la lb) (.ref t)
theorem devF_mono {pre : Dv → Sv → Prop} : ∀ xs k k', devF pre xs k → (∀ P v, k P v → k' P v) → devF pre xs k' := fun _ _ _ ⟨z, e, o, h⟩ g => ⟨z, e, o, fun b t a e' la lb m q => g _ _ (h b t a e' la lb m q)⟩
end PD

/-! PD95: rows of catches; the least places that look alike -/
namespace PD
open PySem PySem.Spec PyProof.Rows L2 Evl
def catL (c : Comb) (s : Int) : List Bool := (List.range c.p.toNat).map fun (k : Nat) => caught c (s + (k : Int))
theorem catL_len (c : Comb) (s : Int) : (catL c s).length = c.p.toNat := by unfold catL; rw [List.length_map, List.length_range]
theorem catL_get {c : Comb} {s : Int} {k : Nat} (h : k < c.p.toNat) : (catL c s)[k]? = some (caught c (s + (k : Int))) := by
  unfold catL
  rw [List.getElem?_map, List.getElem?_range h]
  rfl
theorem caught_add {c : Comb} (s n : Int) : caught c (s + n % c.p) = caught c (s + n) := by
  have e := Int.emod_add_mul_ediv n c.p
  have := caught_up (c := c) (s + n % c.p) (n / c.p)
  rw [← this]
  congr 1
  omega
theorem catL_eq {c : Comb} (ok : c.Ok) {s t : Int} : catL c s = catL c t ↔ ∀ n, caught c (s + n) = caught c (t + n) := by
  have p0 : 0 < c.p := by have := ok.p1; omega
  constructor
  · intro e n
    have r0 := Int.emod_nonneg n (show c.p ≠ 0 by omega)
    have r1 := Int.emod_lt_of_pos n p0
    have h1 := catL_get (c := c) (s := s) (k := (n % c.p).toNat) (by omega)
    have h2 := catL_get (c := c) (s := t) (k := (n % c.p).toNat) (by omega)
    rw [e, h2] at h1
    have h3 := Option.some.inj h1
    rw [show (((n % c.p).toNat : Nat) : Int) = n % c.p by omega, caught_add, caught_add] at h3
    exact h3.symm
  · intro h
    unfold catL
    refine List.map_congr_left fun k _ => h _
theorem eqv_consB (a b : Bool) (xs ys : List D) : PyData.eqv (.list (.bool a :: xs)) (.list (.bool b :: ys)) = (PyData.eqv (.bool a) (.bool b) && PyData.eqv (.list xs) (.list ys)) := rfl
theorem eqv_bool (a b : Bool) : PyData.eqv (.bool a) (.bool b) = decide (a = b) := by cases a <;> cases b <;> rfl
theorem eqv_bools : ∀ a b : List Bool, PyData.eqv (.list (a.map PyData.bool)) (.list (b.map PyData.bool)) = decide (a = b)
  | [], [] => rfl
  | [], b :: bs => rfl
  | a :: as, [] => rfl
  | a :: as, b :: bs => by
    rw [List.map_cons, List.map_cons, eqv_consB, eqv_bools as bs, eqv_bool]
    by_cases h1 : a = b <;> by_cases h2 : as = bs <;> simp [h1, h2]
theorem okD_bools (bs : List Bool) (n : Nat) : okD (n + 1) (.list (bs.map PyData.bool)) := fun x hx => by
  obtain ⟨b, _, rfl⟩ := List.mem_map.mp hx
  cases n <;> trivial
theorem first_is {f : Nat → Bool} {n m : Nat} (hm : m < n) (fm : f m = true) (lo : ∀ k, k < m → f k = false) : ((List.range n).filter f)[0]? = some m := by
  obtain ⟨d, rfl⟩ : ∃ d, n = m + (d + 1) := ⟨n - m - 1, by omega⟩
  have e1 : (List.range m).filter f = [] := List.filter_eq_nil_iff.mpr fun k hk => by
    rw [lo k (List.mem_range.mp hk)]
    decide
  rw [List.range_add, List.filter_append, e1, List.nil_append, List.range_succ_eq_map, List.map_cons]
  rw [List.filter_cons_of_pos (by rw [Nat.add_zero]; exact fm)]
  rfl
theorem least_shift {c : Comb} {P d : Int} (h : LeastP c P) (d0 : 0 < d) (d1 : d < P) : ¬ Per c d := fun per => by
  obtain ⟨h1, h2, h3, h4, h5⟩ := h
  have g := per_gcd (c := c) d.toNat P.toNat (by rw [Int.toNat_of_nonneg (by omega)]; exact per) (by rw [Int.toNat_of_nonneg (by omega)]; exact h4)
  obtain ⟨g9, hg9⟩ : ∃ y, Nat.gcd d.toNat P.toNat = y := ⟨_, rfl⟩
  have e1 : g9 ∣ d.toNat := by rw [← hg9]; exact Nat.gcd_dvd_left _ _
  have e2 : g9 ∣ P.toNat := by rw [← hg9]; exact Nat.gcd_dvd_right _ _
  have g1 : 0 < g9 := by rw [← hg9]; exact Nat.gcd_pos_of_pos_left _ (by omega)
  have l1 := Nat.le_of_dvd (by omega) e1
  rw [hg9] at g
  refine h5 g9 (by omega) (by omega) ?_ g
  have m2 : P % (g9 : Int) = 0 := by
    have := Int.natCast_emod P.toNat g9
    rw [Nat.mod_eq_zero_of_dvd e2, Int.toNat_of_nonneg (by omega)] at this
    exact this.symm
  have a1 := Int.mul_ediv_add_emod c.p P
  have a2 := Int.mul_ediv_add_emod P (g9 : Int)
  rw [h3, Int.add_zero] at a1
  rw [m2, Int.add_zero] at a2
  rw [← a1, ← a2, Int.mul_assoc]
  exact Int.mul_emod_right _ _
/-- the least height that looks alike -/
theorem high_is {c : Comb} (ok : c.Ok) {P : Int} (h : LeastP c P) (s : Int) : ((List.range c.p.toNat).filter fun (k : Nat) => decide (catL c (k : Int) = catL c s))[0]? = some (s % P).toNat := by
  have P1 := h.1
  have Pp := h.2.1
  have r0 := Int.emod_nonneg s (show P ≠ 0 by omega)
  have r1 := Int.emod_lt_of_pos s (show 0 < P by omega)
  have same : ∀ n, caught c (s % P + n) = caught c (s + n) := fun n => by
    have e := Int.emod_add_mul_ediv s P
    have := Per.all h.2.2.2.1 (s % P + n) (s / P)
    rw [← this]
    congr 1
    omega
  refine first_is (by omega) (decide_eq_true ((catL_eq ok).mpr fun n => by rw [Int.toNat_of_nonneg r0]; exact same n)) fun k hk => decide_eq_false fun e => ?_
  have e' := (catL_eq ok).mp e
  refine least_shift h (d := s % P - (k : Int)) (by omega) (by omega) fun x => ?_
  have a1 := same (x - (k : Int))
  have a2 := e' (x - (k : Int))
  rw [show s % P + (x - (k : Int)) = x + (s % P - (k : Int)) by omega] at a1
  rw [show (k : Int) + (x - (k : Int)) = x by omega] at a2
  rw [a1, a2]
/-- the least hand that looks alike -/
theorem arm_is {c : Comb} (ok : c.Ok) {Q : Int} (h : LeastP c Q) (t l : Int) : ((List.range c.p.toNat).filter fun (k : Nat) => decide (catL c (t - (k : Int)) = catL c l))[0]? = some ((t - l) % Q).toNat := by
  have P1 := h.1
  have Pp := h.2.1
  have r0 := Int.emod_nonneg (t - l) (show Q ≠ 0 by omega)
  have r1 := Int.emod_lt_of_pos (t - l) (show 0 < Q by omega)
  have same : ∀ n, caught c (t - (t - l) % Q + n) = caught c (l + n) := fun n => by
    have e := Int.emod_add_mul_ediv (t - l) Q
    have := Per.all h.2.2.2.1 (l + n) ((t - l) / Q)
    rw [← this]
    congr 1
    omega
  refine first_is (by omega) (decide_eq_true ((catL_eq ok).mpr fun n => by rw [Int.toNat_of_nonneg r0]; exact same n)) fun k hk => decide_eq_false fun e => ?_
  have e' := (catL_eq ok).mp e
  refine least_shift h (d := (t - l) % Q - (k : Int)) (by omega) (by omega) fun x => ?_
  have a1 := same (x - t + (t - l) % Q)
  have a2 := e' (x - t + (t - l) % Q)
  rw [show t - (t - l) % Q + (x - t + (t - l) % Q) = x by omega] at a1
  rw [show t - (k : Int) + (x - t + (t - l) % Q) = x + ((t - l) % Q - (k : Int)) by omega] at a2
  rw [a1, a2]
/-- a row that comes again -/
theorem row_per {c : Comb} (ok : c.Ok) {w : Int} (w1 : 1 ≤ w) (wd : c.p % w = 0) (s : Int) : (∀ k : Nat, k < c.p.toNat → caught c (s + (k : Int)) = caught c (s + (k : Int) % w)) ↔ Per c w := by
  have p0 : 0 < c.p := by have := ok.p1; omega
  constructor
  · intro h n
    have key : ∀ m : Int, caught c (s + m) = caught c (s + m % w) := fun m => by
      have r0 := Int.emod_nonneg m (show c.p ≠ 0 by omega)
      have r1 := Int.emod_lt_of_pos m p0
      have z := h (m % c.p).toNat (by omega)
      rw [show (((m % c.p).toNat : Nat) : Int) = m % c.p by omega, caught_add, Int.emod_emod_of_dvd m (Int.dvd_of_emod_eq_zero wd)] at z
      exact z
    have a1 := key (n - s)
    have a2 := key (n - s + w)
    rw [show s + (n - s) = n by omega] at a1
    rw [show s + (n - s + w) = n + w by omega, Int.add_emod_right] at a2
    rw [a1, a2]
  · intro h k _
    have e := Int.emod_add_mul_ediv (k : Int) w
    have := h.all (s + (k : Int) % w) ((k : Int) / w)
    rw [← this]
    congr 1
    omega
/-- the comb of a row's beginning -/
def begT (c : Comb) (s w : Int) : List Int := ((List.range w.toNat).filter fun (k : Nat) => caught c (s + (k : Int))).map fun (k : Nat) => (k : Int)
theorem beg_ok {c : Comb} (ok : c.Ok) {w : Int} (w1 : 1 ≤ w) (wp : w ≤ c.p) (wd : c.p % w = 0) (per : Per c w) (lo : ∀ q, 1 ≤ q → q < w → c.p % q = 0 → ¬ Per c q) (s : Int) :
    Plain (Comb.mk w (begT c s w)) ∧ ∀ n, caught (Comb.mk w (begT c s w)) n = caught c (n + s) := by
  have p24 := ok.p24
  have mem : ∀ z, z ∈ begT c s w ↔ 0 ≤ z ∧ z < w ∧ caught c (s + z) = true := fun z => by
    unfold begT
    constructor
    · intro h
      obtain ⟨k, hk, rfl⟩ := List.mem_map.mp h
      obtain ⟨a1, a2⟩ := List.mem_filter.mp hk
      have := List.mem_range.mp a1
      exact ⟨by omega, by omega, a2⟩
    · rintro ⟨z0, z1, h⟩
      refine List.mem_map.mpr ⟨z.toNat, List.mem_filter.mpr ⟨List.mem_range.mpr (by omega), ?_⟩, by omega⟩
      rw [show ((z.toNat : Nat) : Int) = z by omega]
      exact h
  have cat : ∀ n, caught (Comb.mk w (begT c s w)) n = caught c (n + s) := fun n => by
    have r0 := Int.emod_nonneg n (show w ≠ 0 by omega)
    have r1 := Int.emod_lt_of_pos n (show 0 < w by omega)
    have e1 : caught (Comb.mk w (begT c s w)) n = decide (n % w ∈ begT c s w) := rfl
    have e2 : caught c (n + s) = caught c (s + n % w) := by
      have e := Int.emod_add_mul_ediv n w
      have := per.all (s + n % w) (n / w)
      rw [← this]
      congr 1
      omega
    rw [e1, e2]
    cases q : caught c (s + n % w) with
    | true => exact decide_eq_true ((mem _).mpr ⟨r0, r1, q⟩)
    | false => exact decide_eq_false fun z => by rw [((mem _).mp z).2.2] at q; cases q
  have okb : (Comb.mk w (begT c s w)).Ok := by
    refine ⟨w1, by show w ≤ 24; omega, fun e => ?_, fun t ht => ((mem t).mp ht).1, fun t ht => ((mem t).mp ht).2.1, ?_⟩
    · obtain ⟨t, r, et⟩ : ∃ t r, c.ts = t :: r := by
        cases q : c.ts with
        | nil => exact absurd q ok.ne
        | cons a r => exact ⟨a, r, rfl⟩
      have tm : t ∈ c.ts := by rw [et]; exact List.mem_cons_self
      have tc : caught c t = true := by
        have := caught_tooth ok tm 0
        rw [Int.mul_zero, Int.add_zero] at this
        exact this
      have z := cat (t - s)
      rw [show t - s + s = t by omega, tc] at z
      have e' : begT c s w = [] := e
      have z' : decide ((t - s) % w ∈ begT c s w) = true := z
      rw [e'] at z'
      exact absurd (of_decide_eq_true z') (by simp)
    · show (begT c s w).Pairwise (· < ·)
      unfold begT
      rw [List.pairwise_map]
      refine List.Pairwise.imp ?_ (List.Pairwise.filter _ (List.pairwise_lt_range (n := w.toNat)))
      intro a b h
      omega
  refine ⟨⟨okb, fun q q1 qw qd pq => lo q q1 qw ?_ fun n => ?_⟩, cat⟩
  · have a1 := Int.mul_ediv_add_emod c.p w
    have a2 := Int.mul_ediv_add_emod w q
    rw [wd, Int.add_zero] at a1
    have qd' : w % q = 0 := qd
    rw [qd', Int.add_zero] at a2
    rw [← a1, ← a2, Int.mul_assoc]
    exact Int.mul_emod_right _ _
  · have z := pq (n - s)
    rw [cat, cat, show n - s + s = n by omega, show n - s + q + s = n + q by omega] at z
    exact z
theorem plain_dev_uniq {v : Dv} {s : Sv} {b : Dv} (h : PlD v s b) {b1 b2 : Comb} (p1 : Plain b1) (p2 : Plain b2) (c1 : ∀ n, caught b1 n = caught v.1 (n + s.1)) (c2 : ∀ n, caught b2 n = caught v.2 (n + (s.1 - s.2))) : b = (b1, b2) := h.uniq ⟨p1, p2, c1, c2⟩
end PD

/-! PD96: rows of catches as data -/
namespace PD
open PySem PySem.Spec PyProof.Rows L2 Evl
theorem rowB_get (c : Comb) (s : Int) {k : Nat} (h : k < c.p.toNat) : ((catL c s).map PyData.bool)[k]? = some (.bool (caught c (s + (k : Int)))) := by
  unfold catL
  rw [List.getElem?_map, List.getElem?_map, List.getElem?_range h]
  rfl
end PD

/-! PD97: the least pitch is there -/
namespace PD
open PySem PySem.Spec PyProof.Rows L2 Evl
theorem leastP_ex {c : Comb} (ok : c.Ok) : ∃ P, LeastP c P := by
  have p1 := ok.p1
  obtain ⟨n, hn, ⟨n1, n2, n3, n4⟩, lo⟩ := least_nat (fun k : Nat => 1 ≤ k ∧ (k : Int) ≤ c.p ∧ c.p % (k : Int) = 0 ∧ Per c (k : Int)) c.p.toNat ⟨by omega, by omega, by rw [show ((c.p.toNat : Nat) : Int) = c.p by omega]; exact Int.emod_self, by rw [show ((c.p.toNat : Nat) : Int) = c.p by omega]; exact per_own c⟩
  refine ⟨(n : Int), by omega, n2, n3, n4, fun q q1 qn qd per => ?_⟩
  exact lo q.toNat (by omega) ⟨by omega, by omega, by rw [show ((q.toNat : Nat) : Int) = q by omega]; exact qd, by rw [show ((q.toNat : Nat) : Int) = q by omega]; exact per⟩
theorem LeastP.uniq {c : Comb} {P Q : Int} (h : LeastP c P) (g : LeastP c Q) : P = Q := by
  rcases Int.lt_trichotomy P Q with z | z | z
  · exact absurd h.2.2.2.1 (g.2.2.2.2 P h.1 z h.2.2.1)
  · exact z
  · exact absurd g.2.2.2.1 (h.2.2.2.2 Q g.1 z g.2.2.1)
/-- the places that are told look alike -/
theorem alk_least {v : Dv} {P Q : Int} (h : LeastP v.1 P) (g : LeastP v.2 Q) (s : Sv) : AlkS v s v (s.1 % P, (s.1 % P - (s.1 - s.2)) % Q) := by
  refine ⟨fun n => ?_, fun n => ?_⟩
  · have e := Int.emod_add_mul_ediv s.1 P
    have := Per.all h.2.2.2.1 (n + s.1 % P) (s.1 / P)
    show _ = caught v.1 (n + s.1 % P)
    rw [← this]
    congr 1
    omega
  · obtain ⟨t, ht⟩ : ∃ t, s.1 % P = t := ⟨_, rfl⟩
    show _ = caught v.2 (n + (s.1 % P - (s.1 % P - (s.1 - s.2)) % Q))
    rw [ht]
    have e := Int.emod_add_mul_ediv (t - (s.1 - s.2)) Q
    have := Per.all g.2.2.2.1 (n + (s.1 - s.2)) ((t - (s.1 - s.2)) / Q)
    rw [← this]
    congr 1
    omega
theorem alk_held {v w : Dv} {s t : Sv} (h : AlkS v s w t) : held v s = held w t := by
  have a := h.1 0
  have b := h.2 0
  rw [Int.zero_add, Int.zero_add] at a b
  unfold held
  rw [a, b]
end PD

/-! PD98: combs that come again; plain combs at hand -/
namespace PD
open PySem PySem.Spec PyProof.Rows L2 Evl
/-- the same teeth so many times -/
def rptT (c : Comb) : Nat → List Int
  | 0 => []
  | i + 1 => rptT c i ++ c.ts.map fun t => (i : Int) * c.p + t
theorem rpt_in {c : Comb} (ok : c.Ok) : ∀ (i : Nat), (rptT c i).Pairwise (· < ·) ∧ (∀ t ∈ rptT c i, 0 ≤ t ∧ t < (i : Int) * c.p) ∧ (rptT c i).length = i * c.ts.length
  | 0 => ⟨.nil, (fun t ht => nomatch ht), by rw [Nat.zero_mul]; rfl⟩
  | i + 1 => by
    obtain ⟨h1, h2, h3⟩ := rpt_in ok i
    have e : ((i + 1 : Nat) : Int) * c.p = (i : Int) * c.p + c.p := by rw [show ((i + 1 : Nat) : Int) = (i : Int) + 1 by omega, Int.add_mul, Int.one_mul]
    have p1 := ok.p1
    have i0 : 0 ≤ (i : Int) * c.p := Int.mul_nonneg (by omega) (by omega)
    refine ⟨?_, fun t ht => ?_, ?_⟩
    · show (rptT c i ++ _).Pairwise _
      refine List.pairwise_append.mpr ⟨h1, ?_, fun x hx y hy => ?_⟩
      · rw [List.pairwise_map]
        exact ok.up.imp fun h => by omega
      · obtain ⟨t, ht, rfl⟩ := List.mem_map.mp hy
        have := h2 x hx
        have := ok.low t ht
        omega
    · rcases List.mem_append.mp (show t ∈ rptT c i ++ _ from ht) with z | z
      · have := h2 t z; omega
      · obtain ⟨y, hy, rfl⟩ := List.mem_map.mp z
        have := ok.low y hy
        have := ok.high y hy
        omega
    · show (rptT c i ++ _).length = _
      rw [List.length_append, h3, List.length_map, Nat.succ_mul]
theorem rpt_ok {c : Comb} (ok : c.Ok) {m : Nat} (m1 : 1 ≤ m) (mp : (m : Int) * c.p ≤ 24) : (Comb.mk ((m : Int) * c.p) (rptT c m)).Ok := by
  obtain ⟨h1, h2, h3⟩ := rpt_in ok m
  have p1 := ok.p1
  refine ⟨?_, mp, fun e => ?_, fun t ht => (h2 t ht).1, fun t ht => (h2 t ht).2, h1⟩
  · show 1 ≤ (m : Int) * c.p
    have : (1 : Int) * 1 ≤ (m : Int) * c.p := Int.mul_le_mul (by omega) (by omega) (by omega) (by omega)
    omega
  · have e' : rptT c m = [] := e
    rw [e'] at h3
    have l : 0 < c.ts.length := List.length_pos_iff.mpr ok.ne
    have : 1 * 1 ≤ m * c.ts.length := Nat.mul_le_mul m1 l
    have h3' : 0 = m * c.ts.length := h3
    omega
theorem plain_by {b : Comb} (ok : b.Ok) (h : ∀ q : Nat, q < b.p.toNat → 1 ≤ q → b.p % (q : Int) = 0 → ∃ k : Nat, k < b.p.toNat ∧ caught b ((k : Int) + (q : Int)) ≠ caught b (k : Int)) : Plain b := by
  refine ⟨ok, fun q q1 qb qd per => ?_⟩
  obtain ⟨k, _, hk⟩ := h q.toNat (by omega) (by omega) (by rw [show ((q.toNat : Nat) : Int) = q by omega]; exact qd)
  rw [show ((q.toNat : Nat) : Int) = q by omega] at hk
  exact hk (per _)
theorem same_by {b c : Comb} (p0 : 0 < b.p) (e : c.p = b.p) (d : Int) (h : ∀ k : Nat, k < b.p.toNat → caught b (k : Int) = caught c ((k : Int) + d)) (n : Int) : caught b n = caught c (n + d) := by
  have r0 := Int.emod_nonneg n (show b.p ≠ 0 by omega)
  have r1 := Int.emod_lt_of_pos n p0
  have z := h (n % b.p).toNat (by omega)
  rw [show (((n % b.p).toNat : Nat) : Int) = n % b.p by omega, caught_mod] at z
  rw [z]
  have e1 := Int.emod_add_mul_ediv n b.p
  have := caught_up (c := c) (n % b.p + d) (n / b.p)
  rw [e] at this
  rw [← this]
  congr 1
  omega
theorem Plain.least {b : Comb} (h : Plain b) : LeastP b b.p := ⟨h.1.p1, Int.le_refl _, Int.emod_self, per_own b, h.2⟩
abbrev tenA : Comb := ⟨10, [0, 3]⟩
abbrev tenB : Comb := ⟨10, [0]⟩
abbrev tenC : Comb := ⟨10, [0, 7]⟩
abbrev tenD : Comb := ⟨10, [7]⟩
abbrev five : Comb := ⟨5, [0]⟩
theorem okA : tenA.Ok := ⟨by decide, by decide, by decide, by decide, by decide, by decide⟩
theorem okB : tenB.Ok := ⟨by decide, by decide, by decide, by decide, by decide, by decide⟩
theorem okC : tenC.Ok := ⟨by decide, by decide, by decide, by decide, by decide, by decide⟩
theorem okD' : tenD.Ok := ⟨by decide, by decide, by decide, by decide, by decide, by decide⟩
theorem okF : five.Ok := ⟨by decide, by decide, by decide, by decide, by decide, by decide⟩
theorem plA : Plain tenA := plain_by okA (by decide +kernel)
theorem plB : Plain tenB := plain_by okB (by decide +kernel)
theorem plC : Plain tenC := plain_by okC (by decide +kernel)
theorem plD : Plain tenD := plain_by okD' (by decide +kernel)
theorem plF : Plain five := plain_by okF (by decide +kernel)
theorem dev_1 {b : Dv} (h : PlD (tenA, tenB) (3, 0) b) : b = (tenC, tenD) := plain_dev_uniq h plC plD (same_by (b := tenC) (c := tenA) (by decide) rfl 3 (by decide +kernel)) (same_by (b := tenD) (c := tenB) (by decide) rfl 3 (by decide +kernel))
theorem dev_2 {b : Dv} (h : PlD (five, five) (0, 0) b) : b = (five, five) := plain_dev_uniq h plF plF (same_by (b := five) (c := five) (by decide) rfl 0 (by decide +kernel)) (same_by (b := five) (c := five) (by decide) rfl 0 (by decide +kernel))
end PD

/-! PD99: three in one assignment, all data -/
namespace PD
open PySem PySem.Spec PyProof.Rows L2 Evl
theorem ws_par3 {c : Cn} {ds : DS} {pl : List D} {E : EE} {tr : TA} {i j l : Nat} (h : WA c tr ds pl fun xs p1 => ∃ x y z, xs = [x, y, z] ∧ E.nx (((ds.set i (some (.d x))).set j (some (.d y))).set l (some (.d z))) p1) : WS c (tPar3 i j l tr) ds pl E := fun G σ H hs D' f =>
  h G σ H hs _ fun vs G1 H1 xs p1 h1 e1 f1 ⟨x, y, z, e, g1⟩ => by
    subst e
    cases f1 with
    | cons r1 b =>
      cases b with
      | cons r2 b =>
        cases b with
        | cons r3 b =>
          cases b
          refine ⟨_, _, _, rfl, ?_⟩
          exact f.nx G1 _ H1 _ p1 (((h1.set (w := .d x) r1 fun xs z => by cases z).set (w := .d y) r2 fun xs z => by cases z).set (w := .d z) r3 fun xs z => by cases z) e1 g1
end PD

/-! PD100: two bars over one hand -/
namespace PD
open PySem PySem.Spec PyProof.Rows L2 Evl
/-- the place of two bars: of the lower one, and the gap -/
def pl3 (v : Dv) (s : Sv) (g : Int) : D := .tuple [.int (plc v s).1, .int (plc v s).2, .int g]
/-- the gap behind moves -/
def gapM (v : Dv) (s : Sv) (g : Int) (ms : List Int) : Int := (mvs v (s.1 + g, s.2) ms).1 - (mvs v s ms).1
/-- a place, as a state of its own -/
theorem plc_own (v : Dv) (s : Sv) : plc v ((plc v s).1, (plc v s).1 - (plc v s).2) = plc v s := by
  unfold plc lf
  ext
  · exact Int.emod_emod _ _
  · show (s.1 % v.1.p - (s.1 % v.1.p - (s.1 - s.2) % v.2.p)) % v.2.p = (s.1 - s.2) % v.2.p
    rw [show s.1 % v.1.p - (s.1 % v.1.p - (s.1 - s.2) % v.2.p) = (s.1 - s.2) % v.2.p by omega]
    exact Int.emod_emod _ _
theorem plc_up {v : Dv} {s t : Sv} (h : plc v s = plc v t) (g : Int) : plc v (s.1 + g, s.2) = plc v (t.1 + g, t.2) := by
  have h1 : s.1 % v.1.p = t.1 % v.1.p := congrArg Prod.fst h
  have h2 : (s.1 - s.2) % v.2.p = (t.1 - t.2) % v.2.p := congrArg Prod.snd h
  unfold plc lf
  ext
  · show (s.1 + g) % v.1.p = (t.1 + g) % v.1.p
    rw [Int.add_emod, h1, ← Int.add_emod]
  · show (s.1 + g - s.2) % v.2.p = (t.1 + g - t.2) % v.2.p
    rw [show s.1 + g - s.2 = s.1 - s.2 + g by omega, show t.1 + g - t.2 = t.1 - t.2 + g by omega, Int.add_emod, h2, ← Int.add_emod]
/-- from places alike the same gaps -/
theorem gap_same {v : Dv} (ok : v.Ok) {s t : Sv} (h : plc v s = plc v t) (g : Int) (ms : List Int) : gapM v s g ms = gapM v t g ms := by
  have a1 := mvs_shift ok ms h
  have a2 := mvs_shift ok ms (plc_up h g)
  unfold gapM
  rw [a1, a2]
  show _ = (mvs v (s.1 + g, s.2) ms).1 + (t.1 + g - (s.1 + g)) - ((mvs v s ms).1 + (t.1 - s.1))
  omega
theorem plc_same {v : Dv} (ok : v.Ok) {s t : Sv} (h : plc v s = plc v t) (ms : List Int) : plc v (mvs v s ms) = plc v (mvs v t ms) := by
  rw [mvs_shift ok ms h]
  have h1 : s.1 % v.1.p = t.1 % v.1.p := congrArg Prod.fst h
  have h2 : (s.1 - s.2) % v.2.p = (t.1 - t.2) % v.2.p := congrArg Prod.snd h
  obtain ⟨k1, e1⟩ := mod_eq_shift h1
  obtain ⟨k2, e2⟩ := mod_eq_shift h2
  unfold plc lf
  ext
  · show (mvs v s ms).1 % v.1.p = ((mvs v s ms).1 + (t.1 - s.1)) % v.1.p
    rw [show (mvs v s ms).1 + (t.1 - s.1) = (mvs v s ms).1 + v.1.p * k1 by omega, Int.add_mul_emod_self_left]
  · show ((mvs v s ms).1 - (mvs v s ms).2) % v.2.p = ((mvs v s ms).1 + (t.1 - s.1) - ((mvs v s ms).2 + (t.2 - s.2))) % v.2.p
    rw [show (mvs v s ms).1 + (t.1 - s.1) - ((mvs v s ms).2 + (t.2 - s.2)) = (mvs v s ms).1 - (mvs v s ms).2 + v.2.p * k2 by omega, Int.add_mul_emod_self_left]
/-- bars never pass each other -/
theorem gap_nn {v : Dv} (ok : v.Ok) {s : Sv} {g : Int} (g0 : 0 ≤ g) (ms : List Int) : 0 ≤ gapM v s g ms := by
  have := mvs_mono ok ms (s := s) (t := (s.1 + g, s.2)) (by show s.1 ≤ s.1 + g; omega) rfl
  unfold gapM
  omega
/-- joined bars stay joined -/
theorem gap_zero (v : Dv) (s : Sv) (ms : List Int) : gapM v s 0 ms = 0 := by
  unfold gapM
  rw [show ((s.1 + 0, s.2) : Sv) = s from Prod.ext (Int.add_zero _) rfl]
  omega
end PD

namespace K
open PySem PySem.Spec PyProof.Rows L2 Evl PD
/-! ### the text of the program and of the law, by places -/
def topS (i : Nat) : Stmt := PySem.Challenge.pw_twocombs_k29_plain_devices_and_alike_sta.main.body.getD i (.Pass ⟨0, 0, 0, 0⟩)
abbrev s_is_whole : Stmt := topS 6
theorem sc_is_whole : FnScope ["value"] ["value"] (defScope s_is_whole) := ⟨rfl, rfl, rfl, by decide +kernel, rfl, by decide +kernel, by decide +kernel⟩
abbrev s_is_pair : Stmt := topS 7
theorem sc_is_pair : FnScope ["value"] ["value"] (defScope s_is_pair) := ⟨rfl, rfl, rfl, by decide +kernel, rfl, by decide +kernel, by decide +kernel⟩
abbrev s_is_whole_pair : Stmt := topS 8
theorem sc_is_whole_pair : FnScope ["value"] ["value"] (defScope s_is_whole_pair) := ⟨rfl, rfl, rfl, by decide +kernel, rfl, by decide +kernel, by decide +kernel⟩
abbrev s_catches : Stmt := topS 11
theorem sc_catches : FnScope ["comb", "number", "pitch", "teeth"] ["comb", "number"] (defScope s_catches) := ⟨rfl, rfl, rfl, by decide +kernel, rfl, by decide +kernel, by decide +kernel⟩
abbrev s_copied_comb : Stmt := topS 12
theorem sc_copied_comb : FnScope ["comb", "pitch", "teeth"] ["comb"] (defScope s_copied_comb) := ⟨rfl, rfl, rfl, by decide +kernel, rfl, by decide +kernel, by decide +kernel⟩
abbrev s_is_pitch : Stmt := topS 13
theorem sc_is_pitch : FnScope ["value"] ["value"] (defScope s_is_pitch) := ⟨rfl, rfl, rfl, by decide +kernel, rfl, by decide +kernel, by decide +kernel⟩
abbrev s_are_teeth : Stmt := topS 14
theorem sc_are_teeth : FnScope ["value", "pitch", "low", "high", "tooth"] ["value", "pitch"] (defScope s_are_teeth) := ⟨rfl, rfl, rfl, by decide +kernel, rfl, by decide +kernel, by decide +kernel⟩
abbrev s_check_comb : Stmt := topS 15
theorem sc_check_comb : FnScope ["comb", "pitch", "teeth"] ["comb"] (defScope s_check_comb) := ⟨rfl, rfl, rfl, by decide +kernel, rfl, by decide +kernel, by decide +kernel⟩
abbrev s_check_device : Stmt := topS 16
theorem sc_check_device : FnScope ["device", "index", "comb"] ["device"] (defScope s_check_device) := ⟨rfl, rfl, rfl, by decide +kernel, rfl, by decide +kernel, by decide +kernel⟩
abbrev s_is_comb : Stmt := topS 17
theorem sc_is_comb : FnScope ["value"] ["value"] (defScope s_is_comb) := ⟨rfl, rfl, rfl, by decide +kernel, rfl, by decide +kernel, by decide +kernel⟩
abbrev s_plain_comb : Stmt := topS 18
theorem sc_plain_comb : FnScope ["comb", "pitch", "teeth", "part"] ["comb"] (defScope s_plain_comb) := ⟨rfl, rfl, rfl, by decide +kernel, rfl, by decide +kernel, by decide +kernel⟩
abbrev s_teeth_under : Stmt := topS 19
theorem sc_teeth_under : FnScope ["teeth", "part", "tooth"] ["teeth", "part"] (defScope s_teeth_under) := ⟨rfl, rfl, rfl, by decide +kernel, rfl, by decide +kernel, by decide +kernel⟩
abbrev s_repeated_teeth : Stmt := topS 20
theorem sc_repeated_teeth : FnScope ["teeth", "part", "pitch", "first", "start", "tooth"] ["teeth", "part", "pitch"] (defScope s_repeated_teeth) := ⟨rfl, rfl, rfl, by decide +kernel, rfl, by decide +kernel, by decide +kernel⟩
abbrev s_is_held : Stmt := topS 22
theorem sc_is_held : FnScope ["device", "height", "hand", "ground", "grip"] ["device", "height", "hand"] (defScope s_is_held) := ⟨rfl, rfl, rfl, by decide +kernel, rfl, by decide +kernel, by decide +kernel⟩
abbrev s_fits_device : Stmt := topS 23
theorem sc_fits_device : FnScope ["device", "value"] ["device", "value"] (defScope s_fits_device) := ⟨rfl, rfl, rfl, by decide +kernel, rfl, by decide +kernel, by decide +kernel⟩
abbrev s_check_state : Stmt := topS 24
theorem sc_check_state : FnScope ["device", "state"] ["device", "state"] (defScope s_check_state) := ⟨rfl, rfl, rfl, by decide +kernel, rfl, by decide +kernel, by decide +kernel⟩
abbrev s_check_begun : Stmt := topS 26
theorem sc_check_begun : FnScope ["device", "state"] ["device", "state"] (defScope s_check_begun) := ⟨rfl, rfl, rfl, by decide +kernel, rfl, by decide +kernel, by decide +kernel⟩
abbrev s_check_both : Stmt := topS 27
theorem sc_check_both : FnScope ["device", "state", "second", "start"] ["device", "state", "second", "start"] (defScope s_check_both) := ⟨rfl, rfl, rfl, by decide +kernel, rfl, by decide +kernel, by decide +kernel⟩
abbrev s_shifted_comb : Stmt := topS 28
theorem sc_shifted_comb : FnScope ["comb", "distance", "pitch", "teeth", "tooth"] ["comb", "distance"] (defScope s_shifted_comb) := ⟨rfl, rfl, rfl, by decide +kernel, rfl, by decide +kernel, by decide +kernel⟩
abbrev s_shifted_device : Stmt := topS 29
theorem sc_shifted_device : FnScope ["device", "state", "ground", "grip", "height", "hand"] ["device", "state"] (defScope s_shifted_device) := ⟨rfl, rfl, rfl, by decide +kernel, rfl, by decide +kernel, by decide +kernel⟩
abbrev s_are_alike : Stmt := topS 30
theorem sc_are_alike : FnScope ["device", "state", "second", "start"] ["device", "state", "second", "start"] (defScope s_are_alike) := ⟨rfl, rfl, rfl, by decide +kernel, rfl, by decide +kernel, by decide +kernel⟩
abbrev s_plain_device : Stmt := topS 31
theorem sc_plain_device : FnScope ["device", "state"] ["device", "state"] (defScope s_plain_device) := ⟨rfl, rfl, rfl, by decide +kernel, rfl, by decide +kernel, by decide +kernel⟩
abbrev s_alike_state : Stmt := topS 32
theorem sc_alike_state : FnScope ["device", "state", "ground", "grip", "height", "hand", "pitch", "_", "width", "low"] ["device", "state"] (defScope s_alike_state) := ⟨rfl, rfl, rfl, by decide +kernel, rfl, by decide +kernel, by decide +kernel⟩
abbrev s__law_jar : Stmt := topS 34
theorem sc__law_jar : FnScope ["script", "at", "cell"] ["script", "at"] (defScope s__law_jar) := ⟨rfl, rfl, rfl, by decide +kernel, rfl, by decide +kernel, by decide +kernel⟩
abbrev s__law_pick : Stmt := topS 35
theorem sc__law_pick : FnScope ["jar", "bound", "drawn", "mixed"] ["jar", "bound"] (defScope s__law_pick) := ⟨rfl, rfl, rfl, by decide +kernel, rfl, by decide +kernel, by decide +kernel⟩
abbrev s__law_comb : Stmt := topS 36
theorem sc__law_comb : FnScope ["jar", "most", "wide", "many", "left", "found", "lap"] ["jar", "most"] (defScope s__law_comb) := ⟨rfl, rfl, rfl, by decide +kernel, rfl, by decide +kernel, by decide +kernel⟩
abbrev s__law_pair : Stmt := topS 37
theorem sc__law_pair : FnScope ["jar", "most", "one", "two"] ["jar", "most"] (defScope s__law_pair) := ⟨rfl, rfl, rfl, by decide +kernel, rfl, by decide +kernel, by decide +kernel⟩
abbrev s__law_under : Stmt := topS 38
theorem sc__law_under : FnScope ["comb_here", "spot", "rest", "below", "tooth"] ["comb_here", "spot"] (defScope s__law_under) := ⟨rfl, rfl, rfl, by decide +kernel, rfl, by decide +kernel, by decide +kernel⟩
abbrev s__law_moved : Stmt := topS 39
theorem sc__law_moved : FnScope ["pair", "high", "arm", "step", "lift"] ["pair", "high", "arm", "step"] (defScope s__law_moved) := ⟨rfl, rfl, rfl, by decide +kernel, rfl, by decide +kernel, by decide +kernel⟩
abbrev s__law_behind : Stmt := topS 40
theorem sc__law_behind : FnScope ["pair", "high", "arm", "steps", "step"] ["pair", "high", "arm", "steps"] (defScope s__law_behind) := ⟨rfl, rfl, rfl, by decide +kernel, rfl, by decide +kernel, by decide +kernel⟩
abbrev s__law_stand : Stmt := topS 41
theorem sc__law_stand : FnScope ["jar", "pair", "far", "arm", "high"] ["jar", "pair", "far"] (defScope s__law_stand) := ⟨rfl, rfl, rfl, by decide +kernel, rfl, by decide +kernel, by decide +kernel⟩
abbrev s__law_steps : Stmt := topS 42
theorem sc__law_steps : FnScope ["jar", "many", "far", "found", "lap", "size"] ["jar", "many", "far"] (defScope s__law_steps) := ⟨rfl, rfl, rfl, by decide +kernel, rfl, by decide +kernel, by decide +kernel⟩
abbrev s__law_row : Stmt := topS 43
theorem sc__law_row : FnScope ["one", "spot", "more"] ["one", "spot"] (defScope s__law_row) := ⟨rfl, rfl, rfl, by decide +kernel, rfl, by decide +kernel, by decide +kernel⟩
abbrev s__law_plain : Stmt := topS 44
theorem sc__law_plain : FnScope ["one", "spot", "row", "wide", "unlike", "k"] ["one", "spot"] (defScope s__law_plain) := ⟨rfl, rfl, rfl, by decide +kernel, rfl, by decide +kernel, by decide +kernel⟩
abbrev s__law_right : Stmt := topS 45
theorem sc__law_right : FnScope ["pair", "stand", "kept", "lift", "due", "told", "rows", "high", "arm", "k"] ["pair", "stand"] (defScope s__law_right) := ⟨rfl, rfl, rfl, by decide +kernel, rfl, by decide +kernel, by decide +kernel⟩
abbrev s_law : Stmt := topS 46
theorem sc_law : FnScope ["script", "at", "jar", "lap", "pair", "one", "row", "many", "more", "told", "some", "tooth"] ["script"] (defScope s_law) := ⟨rfl, rfl, rfl, by decide +kernel, rfl, by decide +kernel, by decide +kernel⟩
structure Tx (K : PySem.W.Frag) (mg : Str → Option Value) : Prop where
  n_abs : mg "abs" = none
  n_all : mg "all" = none
  n_bool : mg "bool" = none
  n_enumerate : mg "enumerate" = none
  n_int : mg "int" = none
  n_isinstance : mg "isinstance" = none
  n_len : mg "len" = none
  n_list : mg "list" = none
  n_max : mg "max" = none
  n_min : mg "min" = none
  n_range : mg "range" = none
  n_repr : mg "repr" = none
  n_sorted : mg "sorted" = none
  n_tuple : mg "tuple" = none
  n_zip : mg "zip" = none
  c_MOST_PITCH : ∃ t, mg "MOST_PITCH" = some (.int 24 t)
  k_alike_state_kw_state_device : KwOk K mg "alike_state" ["device", "state"] ["state", "device"] [1, 0]
  k_plain_device_kw_state_device : KwOk K mg "plain_device" ["device", "state"] ["state", "device"] [1, 0]

abbrev F_is_whole := det (fun d : D => [d]) (fun _ => True) (fun d => .bool (isWhole d))
abbrev D_is_whole_ (P : Program) (w : World) (K : PySem.W.Frag) (mg : Str → Option Value) (base : Heap) := Df P w K mg base 1 "is_whole" ["value"] (spP F_is_whole)

abbrev F_is_pair := det (fun d : D => [d]) (fun _ => True) (fun d => .bool (isPair d))
abbrev D_is_pair_ (P : Program) (w : World) (K : PySem.W.Frag) (mg : Str → Option Value) (base : Heap) := Df P w K mg base 1 "is_pair" ["value"] (spP F_is_pair)

abbrev F_catches := det (fun a : Comb × Int => [a.1.d, .int a.2]) (fun a => 0 < a.1.p) (fun a => .bool (caught a.1 a.2))
abbrev D_catches_ (P : Program) (w : World) (K : PySem.W.Frag) (mg : Str → Option Value) (base : Heap) := Df P w K mg base 1 "catches" ["comb", "number"] (spP F_catches)

abbrev D_copied_comb_ (P : Program) (w : World) (K : PySem.W.Frag) (mg : Str → Option Value) (base : Heap) := Df P w K mg base 1 "copied_comb" ["comb"] (spW copyF)

abbrev D_teeth_under_ (P : Program) (w : World) (K : PySem.W.Frag) (mg : Str → Option Value) (base : Heap) := Df P w K mg base 1 "teeth_under" ["teeth", "part"] (spW underF)

abbrev F_pool : List Int → Int → (List D → Prop) → Prop := fun ns i k => 0 ≤ i ∧ i < 100 ∧ ∀ pl, Pk 0 pl → k pl
abbrev D__law_jar_ (P : Program) (w : World) (K : PySem.W.Frag) (mg : Str → Option Value) (base : Heap) := Df P w K mg base 1 "_law_jar" ["script", "at"] (spMk K F_pool)

abbrev F__law_pick := drawF
abbrev D__law_pick_ (P : Program) (w : World) (K : PySem.W.Frag) (mg : Str → Option Value) (base : Heap) := Df P w K mg base 1 "_law_pick" ["jar", "bound"] (spO F__law_pick)

abbrev F__law_under := det (fun a : Comb × Int => [a.1.d, .int a.2]) (fun a => a.1.Ok) (fun a => .int (flo a.1 a.2))
abbrev D__law_under_ (P : Program) (w : World) (K : PySem.W.Frag) (mg : Str → Option Value) (base : Heap) := Df P w K mg base 1 "_law_under" ["comb_here", "spot"] (spP F__law_under)

abbrev F__law_row := det (fun a : Comb × Int => [a.1.d, .int a.2]) (fun a => a.1.Ok) (fun a => .list ((catL a.1 a.2).map PyData.bool))
abbrev D__law_row_ (P : Program) (w : World) (K : PySem.W.Frag) (mg : Str → Option Value) (base : Heap) := Df P w K mg base 1 "_law_row" ["one", "spot"] (spP F__law_row)

abbrev F_is_whole_pair := det (fun d : D => [d]) (fun _ => True) (fun d => .bool (isWholePair d))
abbrev D_is_whole_pair_ (P : Program) (w : World) (K : PySem.W.Frag) (mg : Str → Option Value) (base : Heap) := Df P w K mg base 2 "is_whole_pair" ["value"] (spP F_is_whole_pair)

abbrev F_is_pitch := det (fun d : D => [d]) (fun _ => True) (fun d => .bool (isPitch d))
abbrev D_is_pitch_ (P : Program) (w : World) (K : PySem.W.Frag) (mg : Str → Option Value) (base : Heap) := Df P w K mg base 2 "is_pitch" ["value"] (spP F_is_pitch)

abbrev F_are_teeth := det (fun c : Comb => [.list (c.ts.map PyData.int), .int c.p]) Comb.Ok (fun _ => .bool true)
abbrev D_are_teeth_ (P : Program) (w : World) (K : PySem.W.Frag) (mg : Str → Option Value) (base : Heap) := Df P w K mg base 2 "are_teeth" ["value", "pitch"] (spP F_are_teeth)

abbrev F_repeated_teeth := det (fun a : List Int × Int × Int => [.list (a.1.map PyData.int), .int a.2.1, .int a.2.2]) (fun a => a.1.length ≤ 24 ∧ 1 ≤ a.2.1 ∧ a.2.1 ≤ 24 ∧ 0 ≤ a.2.2 ∧ a.2.2 ≤ 24) (fun a => .list ((repT a.1 a.2.1 ((a.2.2.toNat + a.2.1.toNat - 1) / a.2.1.toNat)).map PyData.int))
abbrev D_repeated_teeth_ (P : Program) (w : World) (K : PySem.W.Frag) (mg : Str → Option Value) (base : Heap) := Df P w K mg base 2 "repeated_teeth" ["teeth", "part", "pitch"] (spP F_repeated_teeth)

abbrev F_is_held := det (fun a : Dv × Sv => [a.1.d, .int a.2.1, .int a.2.2]) (fun a => a.1.Ok) (fun a => .bool (held a.1 a.2))
abbrev D_is_held_ (P : Program) (w : World) (K : PySem.W.Frag) (mg : Str → Option Value) (base : Heap) := Df P w K mg base 2 "is_held" ["device", "height", "hand"] (spP F_is_held)

abbrev F__law_comb := poolF 8000000 (fun t : Int => [.int t]) (fun t => 1 ≤ t ∧ t ≤ 24) (fun _ => 100) (fun t d => ∃ cb : Comb, d = cb.d ∧ cb.Ok ∧ cb.p ≤ t)
abbrev D__law_comb_ (P : Program) (w : World) (K : PySem.W.Frag) (mg : Str → Option Value) (base : Heap) := Df P w K mg base 2 "_law_comb" ["jar", "most"] (spO F__law_comb)

abbrev F__law_stand := poolF 7000000 (fun a : Dv × Int => [a.1.d, .int a.2]) (fun a => a.1.Ok ∧ 1 ≤ a.2 ∧ a.2 ≤ 10 ^ 38) (fun _ => 3) (fun a d => ∃ s : Sv, d = s.d ∧ held a.1 s = true ∧ s.1.natAbs ≤ 10 ^ 40 ∧ s.2.natAbs ≤ 10 ^ 40)
abbrev D__law_stand_ (P : Program) (w : World) (K : PySem.W.Frag) (mg : Str → Option Value) (base : Heap) := Df P w K mg base 2 "_law_stand" ["jar", "pair", "far"] (spO F__law_stand)

abbrev F__law_plain := rel (fun a : Comb × Int => [a.1.d, .int a.2]) (fun a => a.1.Ok) (fun a d => ∃ b : Comb, d = b.d ∧ Plain b ∧ ∀ n, caught b n = caught a.1 (n + a.2))
abbrev D__law_plain_ (P : Program) (w : World) (K : PySem.W.Frag) (mg : Str → Option Value) (base : Heap) := Df P w K mg base 2 "_law_plain" ["one", "spot"] (spP F__law_plain)

abbrev F_check_comb := det (fun c : Comb => [c.d]) Comb.Ok (fun _ => .none)
abbrev D_check_comb_ (P : Program) (w : World) (K : PySem.W.Frag) (mg : Str → Option Value) (base : Heap) := Df P w K mg base 3 "check_comb" ["comb"] (spP F_check_comb)

abbrev F_is_comb := det (fun c : Comb => [c.d]) Comb.Ok (fun _ => .bool true)
abbrev D_is_comb_ (P : Program) (w : World) (K : PySem.W.Frag) (mg : Str → Option Value) (base : Heap) := Df P w K mg base 3 "is_comb" ["value"] (spP F_is_comb)

abbrev F_fits_device := det (fun a : Dv × Sv => [a.1.d, a.2.d]) (fun a => a.1.Ok) (fun a => .bool (held a.1 a.2))
abbrev D_fits_device_ (P : Program) (w : World) (K : PySem.W.Frag) (mg : Str → Option Value) (base : Heap) := Df P w K mg base 3 "fits_device" ["device", "value"] (spP F_fits_device)

abbrev F__law_pair := poolF 7000000 (fun t : Int => [.int t]) (fun t => 1 ≤ t ∧ t ≤ 24) (fun _ => 300) (fun t d => ∃ v : Dv, d = v.d ∧ v.Ok ∧ v.1.p ≤ t ∧ v.2.p ≤ t)
abbrev D__law_pair_ (P : Program) (w : World) (K : PySem.W.Frag) (mg : Str → Option Value) (base : Heap) := Df P w K mg base 3 "_law_pair" ["jar", "most"] (spO F__law_pair)

abbrev F_check_device := det (fun v : Dv => [v.d]) Dv.Ok (fun _ => .none)
abbrev D_check_device_ (P : Program) (w : World) (K : PySem.W.Frag) (mg : Str → Option Value) (base : Heap) := Df P w K mg base 4 "check_device" ["device"] (spP F_check_device)

abbrev D_plain_comb_ (P : Program) (w : World) (K : PySem.W.Frag) (mg : Str → Option Value) (base : Heap) := Df P w K mg base 4 "plain_comb" ["comb"] (spW plainF)

abbrev F_check_state := det (fun a : Dv × Sv => [a.1.d, a.2.d]) (fun a => a.1.Ok ∧ held a.1 a.2 = true) (fun a => .none)
abbrev D_check_state_ (P : Program) (w : World) (K : PySem.W.Frag) (mg : Str → Option Value) (base : Heap) := Df P w K mg base 4 "check_state" ["device", "state"] (spP F_check_state)

abbrev F_check_begun := det (fun a : Dv × Sv => [a.1.d, a.2.d]) (fun a => a.1.Ok ∧ held a.1 a.2 = true) (fun _ => .none)
abbrev D_check_begun_ (P : Program) (w : World) (K : PySem.W.Frag) (mg : Str → Option Value) (base : Heap) := Df P w K mg base 5 "check_begun" ["device", "state"] (spP F_check_begun)

abbrev D_shifted_comb_ (P : Program) (w : World) (K : PySem.W.Frag) (mg : Str → Option Value) (base : Heap) := Df P w K mg base 5 "shifted_comb" ["comb", "distance"] (spW shiftF)

abbrev F_check_both := det (fun a : (Dv × Sv) × Dv × Sv => [a.1.1.d, a.1.2.d, a.2.1.d, a.2.2.d]) (fun a => (a.1.1.Ok ∧ held a.1.1 a.1.2 = true) ∧ a.2.1.Ok ∧ held a.2.1 a.2.2 = true) (fun _ => .none)
abbrev D_check_both_ (P : Program) (w : World) (K : PySem.W.Frag) (mg : Str → Option Value) (base : Heap) := Df P w K mg base 6 "check_both" ["device", "state", "second", "start"] (spP F_check_both)

abbrev D_shifted_device_ (P : Program) (w : World) (K : PySem.W.Frag) (mg : Str → Option Value) (base : Heap) := Df P w K mg base 6 "shifted_device" ["device", "state"] (spW (devF fun v _ => v.Ok))

abbrev F_alike_state := rel (fun a : Dv × Sv => [a.1.d, a.2.d]) (fun a => a.1.Ok ∧ held a.1 a.2 = true) (fun a d => ∃ P Q : Int, LeastP a.1.1 P ∧ LeastP a.1.2 Q ∧ d = Sv.d (a.2.1 % P, (a.2.1 % P - a.2.1 + a.2.2) % Q))
abbrev D_alike_state_ (P : Program) (w : World) (K : PySem.W.Frag) (mg : Str → Option Value) (base : Heap) := Df P w K mg base 6 "alike_state" ["device", "state"] (spP F_alike_state)

abbrev F_are_alike := rel (fun a : (Dv × Sv) × Dv × Sv => [a.1.1.d, a.1.2.d, a.2.1.d, a.2.2.d]) (fun a => (a.1.1.Ok ∧ held a.1.1 a.1.2 = true) ∧ a.2.1.Ok ∧ held a.2.1 a.2.2 = true) (fun a d => ∃ b : Bool, d = .bool b ∧ (b = true ↔ AlkS a.1.1 a.1.2 a.2.1 a.2.2))
abbrev D_are_alike_ (P : Program) (w : World) (K : PySem.W.Frag) (mg : Str → Option Value) (base : Heap) := Df P w K mg base 7 "are_alike" ["device", "state", "second", "start"] (spP F_are_alike)

abbrev D_plain_device_ (P : Program) (w : World) (K : PySem.W.Frag) (mg : Str → Option Value) (base : Heap) := Df P w K mg base 7 "plain_device" ["device", "state"] (spW (devF fun v s => v.Ok ∧ held v s = true))

abbrev F__law_right := det (fun a : Dv × Sv => [a.1.d, a.2.d]) (fun a => a.1.Ok ∧ held a.1 a.2 = true ∧ a.2.1.natAbs ≤ 10 ^ 40 ∧ a.2.2.natAbs ≤ 10 ^ 40) (fun _ => .bool true)
abbrev D__law_right_ (P : Program) (w : World) (K : PySem.W.Frag) (mg : Str → Option Value) (base : Heap) := Df P w K mg base 8 "_law_right" ["pair", "stand"] (spP F__law_right)

local macro_rules | `(tactic| walk_at "nz") => `(tactic| try dsimp only [nox_K, blk_K, slotsD, slotsO, wipeD, List.map, List.length_cons, List.length_nil, Nat.reduceAdd, Nat.reduceSub, List.replicate_succ, List.replicate_zero, List.cons_append, List.nil_append, List.set_cons_zero, List.set_cons_succ, isD, isI, isB, isS, rtD, rtN, rtO])
local macro_rules | `(tactic| walk_at "pd") => `(tactic| first
  | ((with_reducible refine ws_seq ?_); walk_at "nz")
  | ((with_reducible refine ws_ret ?_); walk_at "nz")
  | ((with_reducible refine ws_if ?_); walk_at "nz")
  | (with_reducible refine ws_next ?_)
  | ((with_reducible refine ws_app (xs := ?wvar) ?hvar ?_); (case hvar => rfl))
  | (with_reducible refine ws_drop ?_)
  | ((with_reducible refine ws_unpN ?hunp ?_); (case hunp => rfl))
  | ((with_reducible refine ws_set ?_); walk_at "nz")
  | (with_reducible refine wt_and ?_)
  | (with_reducible refine wt_or ?_)
  | (with_reducible refine wt_not ?_)
  | (with_reducible refine wt_T ?_)
  | (with_reducible refine wt_B ?_)
  | (with_reducible refine wt_tru ?_)
  | (with_reducible refine wt_yes ?_)
  | ((with_reducible refine we_isi ?hisi ?_); (case hisi => decide))
  | (with_reducible refine we_andV ?_)
  | (with_reducible refine we_orV ?_)
  | (with_reducible refine we_notV ?_)
  | (with_reducible refine we_if ?_)
  | ((with_reducible refine we_var (w := ?wvar) ?hvar ?_); (case hvar => rfl))
  | (with_reducible refine we_int ?_)
  | (with_reducible refine we_bl ?_)
  | (with_reducible refine we_non ?_)
  | (with_reducible refine we_str ?_)
  | (with_reducible refine we_neg ?_)
  | ((with_reducible refine we_ixS (a := ?sa) (ns := ?sns) ?hS ?hvar ?_); (case hS => assumption); (case hvar => rfl))
  | ((with_reducible refine we_lenS (a := ?sa) (ns := ?sns) ?hS ?hvar ?_); (case hS => assumption); (case hvar => rfl))
  | ((with_reducible refine we_ixP (p := ?pp) ?hvar ?hpp ?_); (case hvar => rfl); (case hpp => assumption))
  | ((with_reducible refine ws_setP (p := ?pp) ?hvar ?hpp ?_); (case hvar => rfl); (case hpp => assumption))
  | ((with_reducible refine we_opV (xs := ?wvar) ?hvar ?_); (case hvar => rfl))
  | (with_reducible refine we_op ?_)
  | ((with_reducible refine we_lenO (xs := ?wvar) ?hvar ?_); (case hvar => rfl))
  | (with_reducible refine we_cb ?_)
  | (with_reducible refine wa_cons ?_)
  | (with_reducible refine wa_nil ?_)
  | (with_reducible refine we_tup ?_)
  | (with_reducible refine cb_lenT ?_)
  | (with_reducible refine cb_lenL ?_)
  | (with_reducible refine cb_max2 ?_)
  | (with_reducible refine cb_min2 ?_)
  | (with_reducible refine cb_abs ?_)
  | (with_reducible refine cb_int ?_)
  | (with_reducible refine cb_intB ?_)
  | (with_reducible refine os_eqI ?_)
  | (with_reducible refine os_neI ?_)
  | (with_reducible refine os_addI ?_)
  | (with_reducible refine os_sub ?_)
  | (with_reducible refine os_lt ?_)
  | (with_reducible refine os_le ?_)
  | (with_reducible refine os_gt ?_)
  | (with_reducible refine os_ge ?_)
  | (with_reducible refine os_t0 ?_)
  | (with_reducible refine os_t1 ?_)
  | (with_reducible refine os_l0 ?_)
  | (with_reducible refine os_l1 ?_)
  | ((with_reducible refine iteV ?iteh ?_); (case iteh => rfl))
  | ((with_reducible refine iteN ?iteh ?_); (case iteh => rfl))
  | ((with_reducible refine And.intro ?hand ?_); (case hand => first | rfl | decide | (simp only [List.length_cons, List.length_nil]; decide)))
  | ((with_reducible refine ⟨?wx, ?wy, ?hex, ?_⟩); (case hex => rfl)))
local macro_rules | `(tactic| walk_at "go") => `(tactic| repeat walk_at "pd")

section
variable {P : Program} {w : World} {K : PySem.W.Frag} {mg : Str → Option Value} {base : Heap}
theorem ok_is_whole (T : Tx K mg) {f : Addr} {fd : FuncData} (F : Here K mg "is_whole" s_is_whole ["value"] f fd) : D_is_whole_ P w K mg base := by
  refine F.df (fgP F.1 sc_is_whole (fun ds k h => ?_) fun cdv B fr s H E hg hr => ⟨_, ((pss_one (ps_ret (pe_and (pe_callB (r := rIsi K) call_isi (by rfl) T.n_isinstance (by decide +kernel) (pa_cons (pv 0) (pa_cons (pe_bltn (v := .ty "int") (u := .type "int") (by rfl) T.n_int (by decide +kernel) rfl) pa_nil))) (pe_one (pe_not (pe_callB (r := rIsi K) call_isi (by rfl) T.n_isinstance (by decide +kernel) (pa_cons (pv 0) (pa_cons (pe_bltn (v := .ty "bool") (u := .type "bool") (by rfl) T.n_bool (by decide +kernel) rfl) pa_nil))))))))), ?_⟩)
  · obtain ⟨a, rfl, _⟩ := h; rfl
  · intro c ds k hc h
    obtain ⟨d, rfl, _, h⟩ := h
    cases d <;> (walk_at "go"; first | exact h | (refine iteT ?_; walk_at "go"; exact h) | (refine iteF ?_; walk_at "go"; exact h))

theorem ok_is_pair (T : Tx K mg) {f : Addr} {fd : FuncData} (F : Here K mg "is_pair" s_is_pair ["value"] f fd) : D_is_pair_ P w K mg base := by
  refine F.df (fgP F.1 sc_is_pair (fun ds k h => ?_) fun cdv B fr s H E hg hr => ⟨_, ((pss_one (ps_ret (pe_and (pe_callB (r := rIsi K) call_isi (by rfl) T.n_isinstance (by decide +kernel) (pa_cons (pv 0) (pa_cons (pe_bltn (v := .ty "tuple") (u := .type "tuple") (by rfl) T.n_tuple (by decide +kernel) rfl) pa_nil))) (pe_one (pe_cmpR (r := rEqU K) (op_eqU hr.units) (pe_callB (r := rLenQ K) call_len_seq (by rfl) T.n_len (by decide +kernel) (pa_cons (pv 0) pa_nil)) pe_int (nomark _))))))), ?_⟩)
  · obtain ⟨a, rfl, _⟩ := h; rfl
  · intro c ds k hc h
    obtain ⟨d, rfl, _, h⟩ := h
    cases d with
    | tuple xs =>
      walk_at "go"
      match xs, h with
      | [], h => exact h
      | [_], h => exact h
      | [_, _], h => exact h
      | a :: b :: c :: r, h =>
        have e : decide (((a :: b :: c :: r).length : Int) = 2) = false := decide_eq_false (by simp only [List.length_cons]; omega)
        show k (.bool (decide (((a :: b :: c :: r).length : Int) = 2)))
        rw [e]
        exact h
    | _ => walk_at "go"; exact h

theorem ok_catches (T : Tx K mg) {f : Addr} {fd : FuncData} (F : Here K mg "catches" s_catches ["comb", "number"] f fd) : D_catches_ P w K mg base := by
  refine F.df (fgP F.1 sc_catches (fun ds k h => ?_) fun cdv B fr s H E hg hr => ⟨_, ((pss_cons (ps_asg (pv 0) (pg_tup (n := 2) rfl (pgs_cons (pg_name (i := 2) sc_catches.nd rfl (.inl rfl)) (pgs_cons (pg_name (i := 3) sc_catches.nd rfl (.inl rfl)) pgs_nil))))
      (pss_one (ps_ret (pe_cmpR (r := rIn K false) op_in_seq (pe_op op_mod (pv 1) (pv 2)) (pv 3) (by rfl)))))), ?_⟩)
  · obtain ⟨a, rfl, _⟩ := h; rfl
  · intro c ds k hc h
    obtain ⟨⟨cb, n⟩, rfl, hp, h⟩ := h
    walk_at "go"
    refine os_mod hp ?_
    walk_at "go"
    exact os_in h


theorem ok_copied_comb (T : Tx K mg) {f : Addr} {fd : FuncData} (F : Here K mg "copied_comb" s_copied_comb ["comb"] f fd) : D_copied_comb_ P w K mg base := by
  refine F.df (fgW F.1 sc_copied_comb (fun ds k h => ?_) fun cdv B fr s H E hg hr => ⟨_, ((pss_cons (ps_asg (pv 0) (pg_tup (n := 2) rfl (pgs_cons (pg_name (i := 1) sc_copied_comb.nd rfl (.inl rfl)) (pgs_cons (pg_name (i := 2) sc_copied_comb.nd rfl (.inl rfl)) pgs_nil))))
      (pss_one (ps_ret (pe_tup (pa_cons (pv 1) (pa_cons (pe_callTy (r := rListQ K) call_list_of (by rfl) T.n_list (by decide +kernel) (pa_cons (pv 2) pa_nil)) pa_nil))))))), ?_⟩)
  · obtain ⟨a, rfl, _⟩ := h; rfl
  · intro c ds k hc h D' G0 hk
    obtain ⟨cb, rfl, h⟩ := h
    walk_at "nz"
    refine wsk_seq ?_
    walk_at "go"
    intro G σ H hs e
    obtain ⟨v1, a1, a2⟩ := hs.slots 1 _ rfl
    obtain ⟨v2, b1, b2⟩ := hs.slots 2 _ rfl
    have a2' : R G v1 (.int cb.p) := a2
    cases a2'
    obtain ⟨q, us, rfl, d1, d2⟩ := RT.list (.inl (show R G v2 (.list (cb.ts.map PyData.int)) from b2)) hs.sub
    have eus := RA.ints d2
    subst eus
    refine ⟨_, a1, _, b1, q, _, rfl, .inl (SqL.of d1), fun la hla => ⟨by show 2 ≤ sizeLine; decide, fun a ha => ?_⟩⟩
    have n : a ≠ la := fun z => by rw [z, upd_same] at ha; cases ha
    have ha0 : H a = none := by rw [upd_ne n] at ha; exact ha
    refine hk (combP cb a la) (.ref a) _ (h a la n) (fun x o z => ?_) (fun x o z => ?_) fun x o z => ?_
    · have z1 := hs.keep x o (by rw [hc]; simp) z
      exact Ex.new ha _ _ (Ex.new hla _ _ z1)
    · unfold combP at z
      by_cases y : x = a
      · subst y; rw [if_pos rfl] at z; cases z; exact upd_same
      · rw [if_neg y] at z
        by_cases y2 : x = la
        · subst y2; rw [if_pos rfl] at z; cases z; rw [upd_ne y]; exact upd_same
        · rw [if_neg y2] at z; cases z
    · rcases combP_some z with rfl | rfl
      · exact (hs.none_of ha0).2.2.2.2
      · exact (hs.none_of hla).2.2.2.2

theorem ok_teeth_under (T : Tx K mg)  {f : Addr} {fd : FuncData} (F : Here K mg "teeth_under" s_teeth_under ["teeth", "part"] f fd) : D_teeth_under_ P w K mg base := by
  refine F.df (fgW F.1 sc_teeth_under (fun ds k h => ?_) fun cdv B fr s H E hg hr => ⟨_, ((pss_one (ps_ret (pe_lc (own := [("tooth", 2)]) rfl sc_teeth_under.nd (pi_list (pv 0)) (blkOk_by (N := ["teeth", "part", "tooth"]) (sc := defScope s_teeth_under) (by decide +kernel)) (fun _ _ _ _ _ => (pg_name (i := 2) sc_teeth_under.nd rfl (Or.inl rfl) (Or.inr rfl))) (fun _ _ _ _ _ => (pts_one (pt_cmpR op_lt (pv 2) (pv 1) (nomark _)))) (fun _ _ _ _ _ => (pv 2)))))), ?_⟩)
  · obtain ⟨a, rfl, _⟩ := h; rfl
  · intro c ds k hc h D' G0 hk
    obtain ⟨⟨ts, part⟩, rfl, len, h⟩ := h
    have len : ts.length ≤ 24 := len
    walk_at "nz"
    refine wsk_ret (Φ := fun w _ => w = .o ((under ts part).map PyData.int)) ?_ ?_
    · refine we_lcLO (fun i acc p' => p' = [] ∧ acc = ((ts.take i).filter (fun t => decide (t < part))).map PyData.int) (ts.map PyData.int) (no_of rfl _) ?_ ?_ ?_
      · exact we_var rfl ⟨rfl, rfl, rfl⟩
      · rintro i x acc p' hx ⟨rfl, rfl⟩ pin
        obtain ⟨t, ht, rfl⟩ := ints_at hx
        have lenA : (((ts.take i).filter (fun t => decide (t < part))).map PyData.int).length < sizeLine := by
          rw [List.length_map]
          exact Nat.lt_of_le_of_lt (Nat.le_trans (List.length_filter_le _ _) (Nat.le_trans (List.length_take_le' _ _) (show _ ≤ 1000 by omega))) (by decide)
        rw [List.take_add_one, ht]
        rw [Option.toList_some, List.filter_append, List.map_append]
        walk_at "nz"
        refine wt_B (we_op (we_var rfl (we_var rfl (os_lt ?_))))
        walk_at "nz"
        refine ite2 (fun hb => ?_) (fun hb => ?_)
        · rw [List.filter_cons_of_pos (p := fun t : Int => decide (t < part)) hb]
          exact we_var rfl ⟨lenA, rfl, rfl⟩
        · rw [List.filter_cons_of_neg (p := fun t : Int => decide (t < part)) hb]
          exact ⟨rfl, (List.append_nil _).symm⟩
      rintro acc p' ⟨rfl, rfl⟩
      rw [List.length_map, List.take_length]
      rfl
    · rintro v G1 σ H1 w p1 hs e f1 rfl
      obtain ⟨p, us, rfl, a1, a2, a3, a4, a5, a6, a7⟩ := f1
      have eus := RA.ints a2
      subst eus
      refine hk (one p (.lst ((under ts part).map V.int))) (.ref p) _ (h p) (fun a o z => hs.keep a o (by rw [hc]; simp) z) (fun a o z => ?_) fun a o z => ?_
      · obtain ⟨rfl, rfl⟩ := one_some z
        exact a1
      · obtain ⟨rfl, rfl⟩ := one_some z
        exact a4

theorem ok__law_jar (T : Tx K mg) {f : Addr} {fd : FuncData} (F : Here K mg "_law_jar" s__law_jar ["script", "at"] f fd) : D__law_jar_ P w K mg base := by
  refine F.df (fgMk F.1 sc__law_jar rfl fun cdv B fr s H E hg hr => ⟨_, ((pss_cons (ps_set (i := 2) sc__law_jar.nd rfl (.inl rfl) (pe_ifExp (pt_cmpR op_lt (pv 1) (pe_callB (r := rLenQ K) call_len_seq (by rfl) T.n_len (by decide +kernel) (pa_cons (pv 0) pa_nil)) (nomark _)) (pe_ix (r := rIx K) ix_seq (pv 0) (pv 1) (fun _ _ => rfl)) pe_int))
      (pss_one (ps_ret (pe_lst (pa_cons (pe_callB (call_max2 rfl) (by rfl) T.n_max (by decide +kernel) (pa_cons pe_int (pa_cons (pe_op op_addU (pe_op op_sub (pe_callB call_abs (by rfl) T.n_abs (by decide +kernel) (pa_cons (pv 2) pa_nil)) (pe_op op_powW pe_int pe_int)) pe_int) pa_nil))) (pa_cons (pe_op op_addU (pe_op op_mod (pe_callTy call_int1 (by rfl) T.n_int (by decide +kernel) (pa_cons (pv 2) pa_nil)) (pe_op op_addU (pe_op op_powW pe_int pe_int) pe_int)) (pe_op op_mulU pe_int (pe_op op_addU (pv 1) pe_int))) (pa_cons pe_int pa_nil)))))))), ?_⟩)
  intro c a ns i k hc hS h
  obtain ⟨i0, i1, h⟩ := h
  have fin : ∀ a b : Int, 0 ≤ a → 0 ≤ b → b < 2 ^ 100 → k [.int a, .int b, .int 0] := fun a b h1 h2 h3 => h _ ⟨a, b, 0, rfl, h1, h2, h3, Int.le_refl _, Int.le_refl _⟩
  walk_at "go"
  walk_at "nz"
  refine ite_we (fun x => ∃ cell : Int, x = .int cell) (fun hb => ?_) (fun hb => ?_) ?_
  · have hlt : i.toNat < ns.length := by have := of_decide_eq_true hb; omega
    walk_at "go"
    refine ⟨ns[i.toNat], ?_, _, rfl, ⟨_, rfl⟩, rfl⟩
    have z := atI_nat (List.getElem?_eq_getElem hlt)
    rw [Int.toNat_of_nonneg i0] at z
    exact z
  · walk_at "go"
    exact ⟨_, rfl, ⟨_, rfl⟩, rfl⟩
  rintro _ ⟨cell, rfl⟩
  walk_at "go"
  refine we_lstO ?_
  walk_at "go"
  refine os_pow (poww (by decide) (by decide) (by decide +kernel) (by decide +kernel)) ?_
  walk_at "go"
  refine os_pow (poww (by decide) (by decide) (by decide +kernel) (by decide +kernel)) ?_
  walk_at "go"
  have N0 : (0 : Int) < 10 ^ (27 : Int).toNat + 103 := by decide +kernel
  have N1 : (10 : Int) ^ (27 : Int).toNat + 103 < 2 ^ 91 := by decide +kernel
  generalize (10 : Int) ^ (27 : Int).toNat + 103 = N at N0 N1
  refine os_mod N0 ?_
  walk_at "go"
  refine os_mulI (mulw 20 20 (by decide) (by decide) (by omega) (by omega) (by decide) (by decide) (by decide)) ?_
  walk_at "go"
  have y0 := Int.emod_nonneg cell (show N ≠ 0 by omega)
  have y1 := Int.emod_lt_of_pos cell N0
  exact fin _ _ (by omega) (by omega) (by omega)

theorem ok__law_pick (T : Tx K mg)  {f : Addr} {fd : FuncData} (F : Here K mg "_law_pick" s__law_pick ["jar", "bound"] f fd) : D__law_pick_ P w K mg base := by
  refine F.df (fgO F.1 sc__law_pick (fun pl ds k h => ?_) fun cdv B fr s H E hg hr => ⟨_, ((pss_cons (ps_if (pt_cmpR op_gt (pe_ix (r := rIx K) ix_seq (pv 0) pe_int (fun _ _ => rfl)) pe_int (nomark _)) (pss_cons (ps_set (i := 2) sc__law_pick.nd rfl (.inl rfl) (pe_op op_mod (pe_callTy call_int1 (by rfl) T.n_int (by decide +kernel) (pa_cons (pe_ix (r := rIx K) ix_seq (pv 0) pe_int (fun _ _ => rfl)) pa_nil)) (pv 1)))
      (pss_cons (ps_asg (pe_op op_fdivW (pe_ix (r := rIx K) ix_seq (pv 0) pe_int (fun _ _ => rfl)) (pv 1)) (pg_sub (pv 0) pe_int set_list))
      (pss_one (ps_ret (pv 2))))) pss_nil)
      (pss_cons (ps_asg (pe_op op_addU (pe_ix (r := rIx K) ix_seq (pv 0) pe_int (fun _ _ => rfl)) pe_int) (pg_sub (pv 0) pe_int set_list))
      (pss_cons (ps_set (i := 3) sc__law_pick.nd rfl (.inl rfl) (pe_op op_mod (pe_callTy call_int1 (by rfl) T.n_int (by decide +kernel) (pa_cons (pe_op op_powW (pe_op op_addU (pe_ix (r := rIx K) ix_seq (pv 0) pe_int (fun _ _ => rfl)) (pe_op op_mulU pe_int (pe_ix (r := rIx K) ix_seq (pv 0) pe_int (fun _ _ => rfl)))) pe_int) pa_nil)) (pe_op op_addU (pe_op op_powW pe_int pe_int) pe_int)))
      (pss_cons (ps_set (i := 3) sc__law_pick.nd rfl (.inl rfl) (pe_op op_mod (pe_callTy call_int1 (by rfl) T.n_int (by decide +kernel) (pa_cons (pe_op op_powW (pe_op op_addU (pv 3) (pe_op op_mulU pe_int (pe_ix (r := rIx K) ix_seq (pv 0) pe_int (fun _ _ => rfl)))) pe_int) pa_nil)) (pe_op op_addU (pe_op op_powW pe_int pe_int) pe_int)))
      (pss_one (ps_ret (pe_op op_mod (pe_callTy call_int1 (by rfl) T.n_int (by decide +kernel) (pa_cons (pe_op op_fdivW (pv 3) pe_int) pa_nil)) (pv 1))))))))), ?_⟩)
  · obtain ⟨a, n, rfl, _⟩ := h; rfl
  · intro c p pl ds k hp h
    obtain ⟨top, n, rfl, ⟨t0, t1⟩, hP, hn, h⟩ := h
    obtain ⟨a, b, e, rfl, a0, b0, b1, e0, e1⟩ := hP
    have pw : (2 : Int) ^ 100 < (2 : Int) ^ 2000 := by decide +kernel
    walk_at "go"
    refine ⟨_, atI_nat (j := 0) rfl, ?_⟩
    walk_at "go"
    refine ite2 (fun hb => ?_) (fun hb => ?_)
    · walk_at "go"
      refine ⟨_, atI_nat (j := 0) rfl, ?_⟩
      walk_at "go"
      refine os_mod t0 ?_
      walk_at "go"
      refine ⟨_, atI_nat (j := 0) rfl, ?_⟩
      walk_at "go"
      refine os_fdiv (divw a t0 t1) ?_
      walk_at "go"
      refine ⟨0, rfl, ?_⟩
      walk_at "go"
      exact h _ _ ⟨_, rfl, Int.emod_nonneg _ (by omega), Int.emod_lt_of_pos _ t0⟩ ⟨a / top, b, e, rfl, Int.ediv_nonneg a0 (by omega), b0, b1, e0, by show e ≤ ((n + 1 : Nat) : Int); omega⟩
    · walk_at "go"
      refine ⟨_, atI_nat (j := 2) rfl, ?_⟩
      walk_at "go"
      refine ⟨2, rfl, ?_⟩
      walk_at "go"
      refine ⟨_, atI_nat (j := 1) rfl, ?_⟩
      walk_at "go"
      refine ⟨_, atI_nat (j := 2) rfl, ?_⟩
      walk_at "go"
      refine os_mulI (mulw 20 60 (by decide) (by decide) (by omega) (by omega) (by decide) (by decide) (by decide)) ?_
      walk_at "go"
      have x0 : 0 ≤ b + 611953 * (e + 1) := by omega
      have x1 : b + 611953 * (e + 1) < 2 ^ 200 := by omega
      generalize b + 611953 * (e + 1) = x at x0 x1
      refine os_pow (poww (by decide) (by decide) (by have := pow200; omega) (by have := pow200; omega)) ?_
      walk_at "go"
      refine os_pow (poww (by decide) (by decide) (by decide +kernel) (by decide +kernel)) ?_
      walk_at "go"
      have M0 : (0 : Int) < 10 ^ (39 : Int).toNat + 3 := by decide +kernel
      have M1 : (10 : Int) ^ (39 : Int).toNat + 3 < 2 ^ 150 := by decide +kernel
      generalize (10 : Int) ^ (39 : Int).toNat + 3 = M at M0 M1
      refine os_mod M0 ?_
      walk_at "go"
      have y0 := Int.emod_nonneg (x ^ (3 : Int).toNat) (show M ≠ 0 by omega)
      have y1 := Int.emod_lt_of_pos (x ^ (3 : Int).toNat) M0
      generalize x ^ (3 : Int).toNat % M = y at y0 y1
      refine ⟨_, atI_nat (j := 2) rfl, ?_⟩
      walk_at "go"
      refine os_mulI (mulw 30 60 (by decide) (by decide) (by omega) (by omega) (by decide) (by decide) (by decide)) ?_
      walk_at "go"
      have z0 : 0 ≤ y + 86028121 * (e + 1) := by omega
      have z1 : y + 86028121 * (e + 1) < 2 ^ 200 := by omega
      generalize y + 86028121 * (e + 1) = z at z0 z1
      refine os_pow (poww (by decide) (by decide) (by have := pow200; omega) (by have := pow200; omega)) ?_
      walk_at "go"
      refine os_pow (poww (by decide) (by decide) (by decide +kernel) (by decide +kernel)) ?_
      walk_at "go"
      have N0 : (0 : Int) < 10 ^ (42 : Int).toNat + 63 := by decide +kernel
      generalize (10 : Int) ^ (42 : Int).toNat + 63 = N at N0
      refine os_mod N0 ?_
      walk_at "go"
      refine os_fdiv (divw _ (by decide) (by decide +kernel)) ?_
      walk_at "go"
      refine os_mod t0 ?_
      walk_at "go"
      exact h _ _ ⟨_, rfl, Int.emod_nonneg _ (by omega), Int.emod_lt_of_pos _ t0⟩ ⟨a, b, e + 1, rfl, a0, b0, b1, by omega, by show e + 1 ≤ ((n + 1 : Nat) : Int); omega⟩

theorem ok__law_under (T : Tx K mg)  {f : Addr} {fd : FuncData} (F : Here K mg "_law_under" s__law_under ["comb_here", "spot"] f fd) : D__law_under_ P w K mg base := by
  refine F.df (fgP F.1 sc__law_under (fun ds k h => ?_) fun cdv B fr s H E hg hr => ⟨_, ((pss_cons (ps_set (i := 2) sc__law_under.nd rfl (.inr rfl) (pe_op op_mod (pe_callTy call_int1 (by rfl) T.n_int (by decide +kernel) (pa_cons (pv 1) pa_nil)) (pe_ix (r := rIx K) ix_seq (pv 0) pe_int (fun _ _ => rfl))))
      (pss_cons (ps_setLc (i := 3) (own := [("tooth", 4)]) rfl sc__law_under.nd rfl rfl (sw_true rfl rfl rfl (by decide +kernel)) (pi_list (pe_ix (r := rIx K) ix_seq (pv 0) pe_int (fun _ _ => rfl))) (blkOk_by (N := ["comb_here", "spot", "rest", "below", "tooth"]) (sc := defScope s__law_under) (by decide +kernel)) (fun _ _ _ _ _ => (pg_name (i := 4) sc__law_under.nd rfl (Or.inl rfl) (Or.inr rfl))) (fun _ _ _ _ _ => (pts_one (pt_cmpR op_le (pv 4) (pv 2) (nomark _)))) (fun _ _ _ _ _ => (pv 4)))
      (pss_one (ps_ret (pe_op op_addU (pe_op op_sub (pv 1) (pv 2)) (pe_ifExp (pt_cmpR (r := rNeU K) (op_neU hr.units) (pv 3) (pe_lst pa_nil) (nomark _)) (pe_ix (r := rIx K) ix_seq (pv 3) (pe_un un_neg pe_int) (fun _ _ => rfl)) (pe_op op_sub (pe_ix (r := rIx K) ix_seq (pe_ix (r := rIx K) ix_seq (pv 0) pe_int (fun _ _ => rfl)) (pe_un un_neg pe_int) (fun _ _ => rfl)) (pe_ix (r := rIx K) ix_seq (pv 0) pe_int (fun _ _ => rfl)))))))))), ?_⟩)
  · obtain ⟨a, rfl, _⟩ := h; rfl
  · intro c ds k hc h
    obtain ⟨⟨cb, n⟩, rfl, ok, h⟩ := h
    walk_at "go"
    have hp : 0 < cb.p := by have := Comb.Ok.p1 (c := cb) ok; omega
    refine os_mod hp ?_
    walk_at "go"
    refine we_lcL (fun i acc _ => acc = ((cb.ts.take i).filter fun t => decide (t ≤ n % cb.p)).map PyData.int) (cb.ts.map PyData.int) (fun xs q => by cases q) ?_ ?_ ?_
    · walk_at "go"
      rfl
    · intro i x acc pl' hx hJ pin
      obtain ⟨t, ht, rfl⟩ := ints_at hx
      subst hJ
      walk_at "go"
      refine ite2 (fun hb => ?_) (fun hb => ?_)
      · walk_at "go"
        refine ⟨by rw [List.length_map]; exact ts_small ok _ _, ?_⟩
        rw [tfil_yes ht hb, List.map_append]
        rfl
      · rw [tfil_no ht (by simpa using hb)]
    · intro acc pl' hJ
      rw [List.length_map, List.take_length] at hJ
      subst hJ
      have tok : okD 20 (.list ((cb.ts.filter fun t => decide (t ≤ n % cb.p)).map PyData.int)) := okD_ints fun t ht => by
        have h1 := Comb.Ok.low (c := cb) ok t (List.mem_filter.mp ht).1
        have h2 := Comb.Ok.high (c := cb) ok t (List.mem_filter.mp ht).1
        have h3 := Comb.Ok.p24 (c := cb) ok
        exact small24 (by omega) (by omega)
      have hk : k (.int (flo cb n)) := h
      unfold flo lowT at hk
      generalize List.filter (fun t => decide (t ≤ n % cb.p)) cb.ts = L at hk tok ⊢
      walk_at "go"
      refine we_lst ?_
      walk_at "go"
      refine os_neNil tok ?_
      walk_at "nz"
      cases L with
      | nil =>
        rw [if_pos rfl] at hk
        refine iteN rfl ?_
        walk_at "go"
        refine os_ix (ix_last (Comb.Ok.ne (c := cb) ok)) ?_
        walk_at "go"
        rw [show n - n % cb.p + (cb.ts.getLastD 0 - cb.p) = n - n % cb.p - cb.p + cb.ts.getLastD 0 by omega]
        exact hk
      | cons a r =>
        rw [if_neg (List.cons_ne_nil a r)] at hk
        refine iteV rfl ?_
        walk_at "go"
        refine os_ix (ix_last (List.cons_ne_nil a r)) ?_
        walk_at "go"
        exact hk

theorem ok__law_row (T : Tx K mg)  {f : Addr} {fd : FuncData} (F : Here K mg "_law_row" s__law_row ["one", "spot"] f fd) : D__law_row_ P w K mg base := by
  refine F.df (fgP F.1 sc__law_row (fun ds k h => ?_) fun cdv B fr s H E hg hr => ⟨_, ((pss_one (ps_ret (pe_lc (own := [("more", 2)]) rfl sc__law_row.nd (pi_range1 (by rfl) T.n_range (pa_cons (pe_ix (r := rIx K) ix_seq (pv 0) pe_int (fun _ _ => rfl)) pa_nil)) (blkOk_by (N := ["one", "spot", "more"]) (sc := defScope s__law_row) (by decide +kernel)) (fun _ _ _ _ _ => (pg_name (i := 2) sc__law_row.nd rfl (Or.inl rfl) (Or.inr rfl))) (fun _ _ _ _ _ => pts_nil) (fun _ _ _ _ _ => (pe_cmpR (r := rIn K false) op_in_seq (pe_op op_mod (pe_callTy call_int1 (by rfl) T.n_int (by decide +kernel) (pa_cons (pe_op op_addU (pv 1) (pv 2)) pa_nil)) (pe_ix (r := rIx K) ix_seq (pv 0) pe_int (fun _ _ => rfl))) (pe_ix (r := rIx K) ix_seq (pv 0) pe_int (fun _ _ => rfl)) (by rfl))))))), ?_⟩)
  · obtain ⟨a, rfl, _⟩ := h; rfl
  · intro c ds k hc h
    obtain ⟨⟨cb, s⟩, rfl, ok, h⟩ := h
    have ok' : cb.Ok := ok
    have p1 : 0 < cb.p := by have := Comb.Ok.p1 ok'; omega
    have p24 := ok'.p24
    have fin : k (.list ((catL cb s).map PyData.bool)) := h
    walk_at "nz"
    refine ws_ret ?_
    refine we_lcR (fun i acc p' => p' = [] ∧ acc = ((List.range i).map fun (k : Nat) => caught cb (s + (k : Int))).map PyData.bool) cb.p.toNat (no_of rfl _) ?_ ?_ ?_
    · refine wa_cons (we_op (we_var rfl (we_int (os_t0 ?_))))
      exact wa_nil ⟨_, rfl, rfl, by omega, by omega, rfl, rfl⟩
    · rintro i acc p' hi ⟨rfl, rfl⟩ pin
      have len : (((List.range i).map fun (k : Nat) => caught cb (s + (k : Int))).map PyData.bool).length < sizeLine := by
        rw [List.length_map, List.length_map, List.length_range]
        exact Nat.lt_of_le_of_lt (show _ ≤ 100 by omega) (by decide)
      obtain ⟨i9, hi9⟩ : ∃ y : Int, (i : Int) = y := ⟨_, rfl⟩
      rw [List.range_succ, List.map_append, List.map_append, hi9]
      walk_at "nz"
      refine wt_yes ?_
      walk_at "nz"
      refine iteV rfl ?_
      walk_at "go"
      refine os_mod p1 ?_
      walk_at "go"
      refine os_in ⟨len, rfl, ?_⟩
      rw [← hi9]
      rfl
    rintro acc p' ⟨rfl, rfl⟩
    exact fin

theorem ok_is_whole_pair (T : Tx K mg) (D_is_pair : D_is_pair_ P w K mg base) (D_is_whole : D_is_whole_ P w K mg base) {f : Addr} {fd : FuncData} (F : Here K mg "is_whole_pair" s_is_whole_pair ["value"] f fd) : D_is_whole_pair_ P w K mg base := by
  refine F.df (fgP F.1 sc_is_whole_pair (fun ds k h => ?_) fun cdv B fr s H E hg hr => ⟨_, ((pss_one (ps_ret (pe_and (pe_callD D_is_pair hg (hr.mono (by decide)) (by rfl) (pa_cons (pv 0) pa_nil)) (pe_and (pe_callD D_is_whole hg (hr.mono (by decide)) (by rfl) (pa_cons (pe_ix (r := rIx K) ix_seq (pv 0) pe_int (fun _ _ => rfl)) pa_nil)) (pe_one (pe_callD D_is_whole hg (hr.mono (by decide)) (by rfl) (pa_cons (pe_ix (r := rIx K) ix_seq (pv 0) pe_int (fun _ _ => rfl)) pa_nil)))))))), ?_⟩)
  · obtain ⟨a, rfl, _⟩ := h; rfl
  · intro c ds k hc h
    obtain ⟨d, rfl, _, h⟩ := h
    walk_at "go"
    refine we_det d ?_
    walk_at "go"
    by_cases hp : isPair d = true
    · match d, hp, h with
      | .tuple [a, b], hp, h =>
        walk_at "go"
        refine we_det a ?_
        walk_at "go"
        cases a with
        | int i =>
          walk_at "go"
          refine we_det b ?_
          walk_at "go"
          cases b <;> exact h
        | _ => walk_at "go"; exact h
    · have e : isPair d = false := by simpa using hp
      have e2 : isWholePair d = false := by
        unfold isPair at e
        unfold isWholePair
        split at e
        · cases e
        · rename_i z
          split
          · rename_i a b
            exact absurd rfl (z (.int a) (.int b))
          · rfl
      rw [e]
      walk_at "go"
      have h' : k (.bool (isWholePair d)) := h
      rw [e2] at h'
      exact h'

theorem ok_is_pitch (T : Tx K mg) (D_is_whole : D_is_whole_ P w K mg base) {f : Addr} {fd : FuncData} (F : Here K mg "is_pitch" s_is_pitch ["value"] f fd) : D_is_pitch_ P w K mg base := by
  refine F.df (fgP F.1 sc_is_pitch (fun ds k h => ?_) fun cdv B fr s H E hg hr => ⟨_, ((pss_one (ps_ret (pe_and (pe_callD D_is_whole hg (hr.mono (by decide)) (by rfl) (pa_cons (pv 0) pa_nil)) (pe_one (pe_chain op_le op_le pe_int (pv 0) (pe_glob (v := .int 24) (by rfl) T.c_MOST_PITCH.choose_spec ⟨_, rfl⟩))))))), ?_⟩)
  · obtain ⟨a, rfl, _⟩ := h; rfl
  · intro c ds k hc h
    obtain ⟨d, rfl, _, h⟩ := h
    walk_at "go"
    refine we_det d ?_
    walk_at "go"
    cases d with
    | int i =>
      walk_at "go"
      refine we_chain (a := 1) (b := i) (c' := 24) ?_ ?_ ?_ ?_
      · walk_at "go"; rfl
      · walk_at "go"; rfl
      · walk_at "go"; rfl
      · have e : (decide ((1 : Int) ≤ i) && decide (i ≤ 24)) = isPitch (.int i) := by
          unfold isPitch
          by_cases h1 : (1 : Int) ≤ i <;> by_cases h2 : i ≤ 24 <;> simp [h1, h2]
        rw [e]
        exact h
    | _ => walk_at "go"; exact h

theorem ok_are_teeth (T : Tx K mg) (D_is_whole : D_is_whole_ P w K mg base) {f : Addr} {fd : FuncData} (F : Here K mg "are_teeth" s_are_teeth ["value", "pitch"] f fd) : D_are_teeth_ P w K mg base := by
  refine F.df (fgP F.1 sc_are_teeth (fun ds k h => ?_) fun cdv B fr s H E hg hr => ⟨_, ((pss_cons (ps_if (PW.pt (pw_or (pt_not (pt_val (pe_callB (r := rIsi K) call_isi (by rfl) T.n_isinstance (by decide +kernel) (pa_cons (pv 0) (pa_cons (pe_bltn (v := .ty "list") (u := .type "list") (by rfl) T.n_list (by decide +kernel) rfl) pa_nil))))) (pw_or1 (pt_cmpR (r := rEqU K) (op_eqU hr.units) (pe_callB (r := rLenQ K) call_len_seq (by rfl) T.n_len (by decide +kernel) (pa_cons (pv 0) pa_nil)) pe_int (nomark _))))) (pss_one (ps_ret pe_bl)) pss_nil)
      (pss_cons (ps_if (pt_not (pt_val (pe_callB (r := rAll K) (cr_all rfl) (by rfl) T.n_all (by decide +kernel) (pa_cons (pe_lc (own := [("tooth", 4)]) rfl sc_are_teeth.nd (pi_list (pv 0)) (blkOk_by (N := ["value", "pitch", "low", "high", "tooth"]) (sc := defScope s_are_teeth) (by decide +kernel)) (fun _ _ _ _ _ => (pg_name (i := 4) sc_are_teeth.nd rfl (Or.inl rfl) (Or.inr rfl))) (fun _ _ _ _ _ => pts_nil) (fun _ _ _ _ _ => (pe_callD D_is_whole hg (hr.mono (by decide)) (by rfl) (pa_cons (pv 4) pa_nil)))) pa_nil)))) (pss_one (ps_ret pe_bl)) pss_nil)
      (pss_cons (ps_if (PW.pt (pw_or (pt_cmpR op_lt (pe_ix (r := rIx K) ix_seq (pv 0) pe_int (fun _ _ => rfl)) pe_int (nomark _)) (pw_or1 (pt_cmpR op_ge (pe_ix (r := rIx K) ix_seq (pv 0) (pe_un un_neg pe_int) (fun _ _ => rfl)) (pv 1) (nomark _))))) (pss_one (ps_ret pe_bl)) pss_nil)
      (pss_one (ps_ret (pe_callB (r := rAll K) (cr_all rfl) (by rfl) T.n_all (by decide +kernel) (pa_cons (pe_lc (g := (gTup K 2 (gCons (gName 2) (gCons (gName 3) gNil)))) (own := [("low", 2), ("high", 3)]) rfl sc_are_teeth.nd (pi_zip (by rfl) T.n_zip (pa_cons (pv 0) (pa_cons (pe_slice (r := rSlL K) sl_list (pv 0) (po_some pe_int) po_none) pa_nil))) (blkOk_by (N := ["value", "pitch", "low", "high", "tooth"]) (sc := defScope s_are_teeth) (by decide +kernel)) (fun _ _ _ _ _ => (pg_tup (n := 2) rfl (pgs_cons (pg_name (i := 2) sc_are_teeth.nd rfl (Or.inl rfl) (Or.inr rfl)) (pgs_cons (pg_name (i := 3) sc_are_teeth.nd rfl (Or.inl rfl) (Or.inr rfl)) pgs_nil)))) (fun _ _ _ _ _ => pts_nil) (fun _ _ _ _ _ => (pe_cmpR op_lt (pv 2) (pv 3) (nomark _)))) pa_nil)))))))), ?_⟩)
  · obtain ⟨a, rfl, _⟩ := h; rfl
  · intro c ds k hc h
    obtain ⟨cb, rfl, ok, h⟩ := h
    walk_at "go"
    have hne := Comb.Ok.ne ok
    have hlen : decide (((cb.ts.map PyData.int).length : Int) = 0) = false := decide_eq_false (by
      rw [List.length_map]
      have := List.length_pos_iff.mpr hne
      omega)
    rw [hlen]
    walk_at "go"
    refine we_lcL (fun i acc _ => acc = (List.replicate i true).map PyData.bool ∧ i ≤ cb.ts.length) (cb.ts.map PyData.int) (fun xs q => by cases q) ?_ ?_ ?_
    · walk_at "go"
      exact Nat.zero_le _
    · intro i x acc pl' hx hJ pin
      obtain ⟨t, ht, rfl⟩ := ints_at hx
      obtain ⟨rfl, hi⟩ := hJ
      have hlt := (List.getElem?_eq_some_iff.mp ht).1
      walk_at "go"
      refine we_det (.int t) ?_
      walk_at "go"
      refine ⟨?_, ?_, hlt⟩
      · rw [List.length_map, List.length_replicate]
        exact Nat.lt_of_le_of_lt (Nat.le_trans hi ok.len) (by decide)
      · rw [List.replicate_succ', List.map_append]
        rfl
    · intro acc pl' hJ
      obtain ⟨rfl, _⟩ := hJ
      walk_at "go"
      refine cb_all ?_
      have e : (List.replicate (cb.ts.map PyData.int).length true).all id = true := by simp
      rw [e]
      walk_at "go"
      obtain ⟨t0, r0, ht0⟩ : ∃ t r, cb.ts = t :: r := by
        cases hq : cb.ts with
        | nil => exact absurd hq hne
        | cons a r => exact ⟨a, r, rfl⟩
      refine os_ln (n := 0) (x := .int t0) (by rw [ht0]; rfl) ?_
      walk_at "go"
      have e0 : decide (t0 < 0) = false := decide_eq_false (by have := ok.low t0 (by rw [ht0]; exact List.mem_cons_self); omega)
      rw [e0]
      walk_at "go"
      refine os_ix (ix_last hne) ?_
      walk_at "go"
      have e1 : decide (cb.p ≤ cb.ts.getLastD 0) = false := decide_eq_false (by have := ok.high _ (last_mem hne); omega)
      rw [e1]
      walk_at "go"
      refine we_lcZ (fun i acc _ => acc = (List.replicate i true).map PyData.bool ∧ i ≤ cb.ts.length) (cb.ts.map PyData.int) (cb.ts.tail.map PyData.int) (by rw [List.length_map, List.length_map, List.length_tail]; omega) (fun xs => ⟨fun q => (by cases q), fun q => (by cases q)⟩) ?_ ?_ ?_
      · walk_at "go"
        refine we_slice ?_
        walk_at "go"
        refine ⟨_, rfl, ?_⟩
        refine wo_some ?_
        walk_at "go"
        refine wo_none ?_
        walk_at "go"
        refine ⟨?_, rfl, Nat.zero_le _⟩
        rw [cut_tail]
      · intro i x y acc pl' hx hy hJ pin
        obtain ⟨tx, htx, rfl⟩ := ints_at hx
        obtain ⟨ty, hty, rfl⟩ := ints_at hy
        obtain ⟨rfl, hi⟩ := hJ
        have hlt := (List.getElem?_eq_some_iff.mp htx).1
        walk_at "go"
        have e2 : decide (tx < ty) = true := decide_eq_true (asc_next ok.up htx (by rw [← List.drop_one, List.getElem?_drop, Nat.add_comm] at hty; exact hty))
        refine ⟨?_, ?_, hlt⟩
        · rw [List.length_map, List.length_replicate]
          exact Nat.lt_of_le_of_lt (Nat.le_trans hi ok.len) (by decide)
        · rw [List.replicate_succ', List.map_append, e2]
          rfl
      · intro acc pl' hJ
        obtain ⟨rfl, _⟩ := hJ
        walk_at "go"
        refine cb_all ?_
        have e3 : (List.replicate (cb.ts.tail.map PyData.int).length true).all id = true := by simp
        rw [e3]
        exact h

theorem ok_repeated_teeth (T : Tx K mg) (D_teeth_under : D_teeth_under_ P w K mg base) {f : Addr} {fd : FuncData} (F : Here K mg "repeated_teeth" s_repeated_teeth ["teeth", "part", "pitch"] f fd) : D_repeated_teeth_ P w K mg base := by
  refine F.df (fgP F.1 sc_repeated_teeth (fun ds k h => ?_) fun cdv B fr s H E hg hr => ⟨_, ((pss_cons (ps_set (i := 3) sc_repeated_teeth.nd rfl (.inr rfl) (pe_callD D_teeth_under hg (hr.mono (by decide)) (by rfl) (pa_cons (pv 0) (pa_cons (pv 1) pa_nil))))
      (pss_one (ps_ret (pe_lc2 (wi1 := iList K (tVar 3)) (g := (gName 4)) (g1 := (gName 5)) (vs1 := [5]) (own := [("start", 4), ("tooth", 5)]) rfl sc_repeated_teeth.nd (pi_range3 (by rfl) T.n_range (pa_cons pe_int (pa_cons (pv 2) (pa_cons (pv 1) pa_nil)))) (blkOk_by (N := ["teeth", "part", "pitch", "first", "start", "tooth"]) (sc := defScope s_repeated_teeth) (by decide +kernel)) (by decide) (fun _ _ _ _ _ => (pg_name (i := 4) sc_repeated_teeth.nd rfl (Or.inl rfl) (Or.inr rfl))) (fun _ _ _ _ _ => pts_nil) (fun _ _ _ _ _ => (pi_list (pv 3))) (fun _ _ _ _ _ => (pg_name (i := 5) sc_repeated_teeth.nd rfl (Or.inl rfl) (Or.inr rfl))) (fun _ _ _ _ _ => pts_nil) (fun _ _ _ _ _ => (pe_op op_addU (pv 4) (pv 5)))))))), ?_⟩)
  · obtain ⟨a, rfl, _⟩ := h; rfl
  · intro c ds k hc h
    obtain ⟨⟨ts, q, p⟩, rfl, ⟨len, q1, q24, p0, p24⟩, h⟩ := h
    have len' : ts.length ≤ 24 := len
    have q1' : 1 ≤ q := q1
    have q24' : q ≤ 24 := q24
    have p0' : 0 ≤ p := p0
    have p24' : p ≤ 24 := p24
    have h' : k (.list ((repT ts q ((p.toNat + q.toNat - 1) / q.toNat)).map PyData.int)) := h
    have rg := rgc p0' p24' q1' q24'
    have Nb : (p.toNat + q.toNat - 1) / q.toNat ≤ 48 := Nat.le_trans (Nat.div_le_self _ _) (by omega)
    generalize (p.toNat + q.toNat - 1) / q.toNat = N at h' rg Nb
    have ul : (under ts q).length ≤ 24 := Nat.le_trans (List.length_filter_le _ _) len'
    have rl : ∀ M : Nat, (repT ts q M).length ≤ M * 24 := fun M => by
      induction M with
      | zero => exact Nat.le_refl _
      | succ M ih =>
        rw [repT_succ, List.length_append, List.length_map, Nat.succ_mul]
        omega
    walk_at "nz"
    refine ws_seq (ws_set (we_callW (wa_cons (we_var rfl (wa_cons (we_var rfl (wa_nil ⟨(ts, q), rfl, len', fun la => ⟨.list ((under ts q).map PyData.int), R.lst one_at (RA.of_ints _), ?_⟩⟩))))) underF_mono))
    walk_at "nz"
    refine ws_ret ?_
    refine we_lc2R3 (fun i k acc p' => p' = [] ∧ acc = (repT ts q i ++ ((under ts q).take k).map fun t => (i : Int) * q + t).map PyData.int) 0 q N ((under ts q).map PyData.int) (fun i xs e => no_of rfl _ _ e) rfl (by decide) ?_ ?_ ?_ ?_
    · exact wa_cons (we_int (wa_cons (we_var rfl (wa_cons (we_var rfl (wa_nil ⟨p, rfl, rg, rfl, rfl⟩))))))
    · rintro i k y acc p' hi hy ⟨rfl, rfl⟩ pin
      obtain ⟨t, ht, rfl⟩ := ints_at hy
      have lenA : ((repT ts q i ++ ((under ts q).take k).map fun t => (i : Int) * q + t).map PyData.int).length < sizeLine := by
        rw [List.length_map, List.length_append, List.length_map]
        have a1 := rl i
        have a2 : i * 24 ≤ 48 * 24 := Nat.mul_le_mul_right _ (by omega)
        have a3 := List.length_take_le' k (under ts q)
        exact Nat.lt_of_le_of_lt (show _ ≤ 2000 by omega) (by decide)
      walk_at "nz"
      refine we_op (we_var rfl (we_var rfl (os_addI ?_)))
      refine ⟨lenA, rfl, ?_⟩
      rw [List.take_add_one, ht, Option.toList_some]
      simp only [List.map_append, List.map_cons, List.map_nil, List.append_assoc, Int.zero_add]
    · rintro i acc p' ⟨rfl, rfl⟩
      refine ⟨rfl, ?_⟩
      rw [List.length_map, List.take_length, repT_succ, List.take_zero]
      show _ = (_ ++ []).map _
      rw [List.append_nil]
    · rintro acc p' ⟨rfl, rfl⟩
      rw [List.take_zero]
      show k (.list ((repT ts q N ++ []).map PyData.int))
      rw [List.append_nil]
      exact h'

theorem ok_is_held (T : Tx K mg) (D_catches : D_catches_ P w K mg base) {f : Addr} {fd : FuncData} (F : Here K mg "is_held" s_is_held ["device", "height", "hand"] f fd) : D_is_held_ P w K mg base := by
  refine F.df (fgP F.1 sc_is_held (fun ds k h => ?_) fun cdv B fr s H E hg hr => ⟨_, ((pss_cons (ps_asg (pv 0) (pg_tup (n := 2) rfl (pgs_cons (pg_name (i := 3) sc_is_held.nd rfl (.inl rfl)) (pgs_cons (pg_name (i := 4) sc_is_held.nd rfl (.inl rfl)) pgs_nil))))
      (pss_one (ps_ret (pe_or (pe_callD D_catches hg (hr.mono (by decide)) (by rfl) (pa_cons (pv 3) (pa_cons (pv 1) pa_nil))) (pe_one (pe_callD D_catches hg (hr.mono (by decide)) (by rfl) (pa_cons (pv 4) (pa_cons (pe_op op_sub (pv 1) (pv 2)) pa_nil))))))))), ?_⟩)
  · obtain ⟨a, rfl, _⟩ := h; rfl
  · intro c ds k hc h
    obtain ⟨⟨v, s⟩, rfl, ok, h⟩ := h
    have ok' : v.Ok := ok
    have p1 : 0 < v.1.p := by have := Comb.Ok.p1 ok'.1; omega
    have p2 : 0 < v.2.p := by have := Comb.Ok.p1 ok'.2; omega
    walk_at "go"
    refine we_det (v.1, s.1) ?_
    walk_at "go"
    refine ⟨p1, ?_⟩
    have h' : k (.bool (held v s)) := h
    unfold held at h'
    cases hq : caught v.1 s.1 with
    | true =>
      rw [hq] at h'
      walk_at "go"
      exact h'
    | false =>
      rw [hq] at h'
      walk_at "go"
      refine we_det (v.2, s.1 - s.2) ?_
      walk_at "go"
      exact ⟨p2, h'⟩

theorem ok__law_comb (T : Tx K mg) (D__law_pick : D__law_pick_ P w K mg base) {f : Addr} {fd : FuncData} (F : Here K mg "_law_comb" s__law_comb ["jar", "most"] f fd) : D__law_comb_ P w K mg base := by
  refine F.df (fgO F.1 sc__law_comb (fun pl ds k h => ?_) fun cdv B fr s H E hg hr => ⟨_, ((pss_cons (ps_set (i := 2) sc__law_comb.nd rfl (.inl rfl) (pe_ix (r := rIx K) ix_seq (pe_lst (pa_cons (pe_op op_addU pe_int (pe_callD D__law_pick hg (hr.mono (by decide)) (by rfl) (pa_cons (pv 0) (pa_cons (pv 1) pa_nil)))) (pa_cons (pv 1) pa_nil))) (pe_callD D__law_pick hg (hr.mono (by decide)) (by rfl) (pa_cons (pv 0) (pa_cons pe_int pa_nil))) (fun _ _ => rfl)))
      (pss_cons (ps_set (i := 3) sc__law_comb.nd rfl (.inl rfl) (pe_ix (r := rIx K) ix_seq (pe_lst (pa_cons pe_int (pa_cons (pe_op op_addU pe_int (pe_callD D__law_pick hg (hr.mono (by decide)) (by rfl) (pa_cons (pv 0) (pa_cons (pe_callB (call_min2 rfl) (by rfl) T.n_min (by decide +kernel) (pa_cons pe_int (pa_cons (pv 2) pa_nil))) pa_nil)))) (pa_cons (pe_op op_addU pe_int (pe_callD D__law_pick hg (hr.mono (by decide)) (by rfl) (pa_cons (pv 0) (pa_cons (pv 2) pa_nil)))) (pa_cons (pv 2) pa_nil))))) (pe_callD D__law_pick hg (hr.mono (by decide)) (by rfl) (pa_cons (pv 0) (pa_cons pe_int pa_nil))) (fun _ _ => rfl)))
      (pss_cons (ps_par (i := 4) (j := 5) rfl sc__law_comb.nd rfl rfl (by decide) rfl rfl (pa_cons (pe_listRg rfl (by rfl) T.n_list (prg_1 (by rfl) T.n_range (pv 2))) (pa_cons (pe_lst pa_nil) pa_nil)) (by rfl))
      (pss_cons (ps_for PassesOwn.never rfl (pi_range1 (by rfl) T.n_range (pa_cons (pv 3) pa_nil)) (pg_name (i := 6) sc__law_comb.nd rfl (.inl rfl)) (pss_one (ps_expr (pe_bm PySem.F.plainAttrs_list PySem.F.slot_list_append PySem.F.type_list_append mt_append (pv 5) (pa_cons (pe_bm PySem.F.plainAttrs_list PySem.F.slot_list_pop PySem.F.type_list_pop mt_popAt (pv 4) (pa_cons (pe_callD D__law_pick hg (hr.mono (by decide)) (by rfl) (pa_cons (pv 0) (pa_cons (pe_callB (r := rLenQ K) call_len_seq (by rfl) T.n_len (by decide +kernel) (pa_cons (pv 4) pa_nil)) pa_nil))) pa_nil)) pa_nil)))))
      (pss_one (ps_ret (pe_tup (pa_cons (pv 2) (pa_cons (pe_callB (r := rSortedI K) cr_sortedI (by rfl) T.n_sorted (by decide +kernel) (pa_cons (pv 5) pa_nil)) pa_nil)))))))))), ?_⟩)
  · obtain ⟨a, n, rfl, _⟩ := h; rfl
  · intro c p pl ds k hp h
    obtain ⟨most, n, rfl, ⟨t0, t1⟩, hP, hn, h⟩ := h
    have t0' : 1 ≤ most := t0
    have t1' : most ≤ 24 := t1
    have big : (24 : Int) < (2 : Int) ^ 200 := by decide +kernel
    walk_at "go"
    refine we_lst ?_
    walk_at "go"
    refine we_draw most n rfl hp ?_
    walk_at "go"
    refine ⟨⟨by omega, by omega⟩, hP, by omega, fun v1 pl1 v10 v11 hP1 => ?_⟩
    walk_at "go"
    refine we_draw 2 (n + 1) rfl hp ?_
    walk_at "go"
    refine ⟨hP1, by omega, fun v2 pl2 v20 v21 hP2 => ?_⟩
    walk_at "go"
    refine os_pick (fun x => ∃ z : Int, x = .int z ∧ 1 ≤ z ∧ z ≤ 24 ∧ z ≤ most) v20 v21 ?_ ?_
    · intro x hx
      rcases List.mem_cons.mp hx with rfl | hx
      · exact ⟨1 + v1, rfl, by omega, by omega, by omega⟩
      · rcases List.mem_cons.mp hx with rfl | hx
        · exact ⟨most, rfl, by omega, by omega, Int.le_refl _⟩
        · cases hx
    rintro _ ⟨z, rfl, s1, s24, smost⟩
    walk_at "nz"
    refine ws_seq (ws_set (we_op ?_))
    repeat (first | walk_at "pd" | with_reducible refine we_lst ?_)
    refine we_draw (min 3 z) (n + 2) rfl hp ?_
    walk_at "go"
    refine ⟨⟨by omega, by omega⟩, hP2, by omega, fun v3 pl3 v30 v31 hP3 => ?_⟩
    walk_at "go"
    refine we_draw z (n + 3) rfl hp ?_
    walk_at "go"
    refine ⟨⟨by omega, by omega⟩, hP3, by omega, fun v4 pl4 v40 v41 hP4 => ?_⟩
    walk_at "go"
    refine we_draw 4 (n + 4) rfl hp ?_
    walk_at "go"
    refine ⟨hP4, by omega, fun v5 pl5 v50 v51 hP5 => ?_⟩
    refine os_pick (fun x => ∃ j : Int, x = .int j ∧ 1 ≤ j ∧ j ≤ z) v50 v51 ?_ ?_
    · intro x hx
      simp only [List.mem_cons, List.not_mem_nil, or_false] at hx
      rcases hx with rfl | rfl | rfl | rfl
      · exact ⟨_, rfl, by omega, by omega⟩
      · exact ⟨_, rfl, by omega, by omega⟩
      · exact ⟨_, rfl, by omega, by omega⟩
      · exact ⟨_, rfl, by omega, by omega⟩
    rintro _ ⟨many, rfl, a1, a2⟩
    obtain ⟨Z, rfl⟩ : ∃ Z : Nat, z = (Z : Int) := ⟨z.toNat, by omega⟩
    obtain ⟨A, rfl⟩ : ∃ A : Nat, many = (A : Int) := ⟨many.toNat, by omega⟩
    walk_at "nz"
    refine ws_seq (ws_parLR (we_var rfl ⟨Z, rfl, by omega, ?_⟩))
    walk_at "nz"
    refine ws_seq ?_
    refine ws_forR1 (fun i ds' pl' => ∃ (F Lf : List Int) (x : _), ds' = [some (.v (.ref p)), some (.d (.int most)), some (.d (.int (Z : Int))), some (.d (.int (A : Int))), some (.o (Lf.map PyData.int)), some (.o (F.map PyData.int)), x] ∧ F.length = i ∧ (F ++ Lf).Perm ((List.range Z).map fun (i : Nat) => (i : Int)) ∧ Pk (n + 5 + i) pl') A ?_ ?_ ?_
    · refine wa_cons (we_var rfl (wa_nil ⟨(A : Int), rfl, Int.toNat_natCast _, by omega, by omega, [], _, _, rfl, rfl, .refl _, hP5⟩))
    · rintro i ds' pl' hi ⟨F, Lf, x, rfl, fl, pm, hPi⟩
      have ll : F.length + Lf.length = Z := by
        have := pm.length_eq
        rwa [List.length_append, List.length_map, List.length_range] at this
      obtain ⟨q, hq⟩ : ∃ q : Int, ((Lf.map PyData.int).length : Int) = q := ⟨_, rfl⟩
      have hq2 : (Lf.length : Int) = q := by rw [← hq, List.length_map]
      walk_at "nz"
      refine ws_appPop (xs := F.map PyData.int) (ys := Lf.map PyData.int) rfl rfl (by decide) ?_
      refine we_draw q (n + 5 + i) rfl hp ?_
      refine wa_cons (we_lenO (xs := Lf.map PyData.int) rfl ?_)
      refine wa_nil ⟨by rw [hq], ⟨by omega, by omega⟩, hPi, by omega, fun v6 pl6 v60 v61 hP6 => ?_⟩
      obtain ⟨m, rfl⟩ : ∃ m : Nat, v6 = (m : Int) := ⟨v6.toNat, by omega⟩
      have hm : m < Lf.length := by omega
      refine ⟨m, .int (Lf[m]'hm), rfl, by omega, by rw [List.getElem?_map, List.getElem?_eq_getElem hm]; rfl, by rw [List.length_map]; exact Nat.lt_of_le_of_lt (show _ ≤ 100 by omega) (by decide), ?_⟩
      refine ⟨F ++ [Lf[m]'hm], Lf.eraseIdx m, some (.d (.int (i : Int))), ?_, by rw [List.length_append, fl]; rfl, ?_, hP6⟩
      · have e1 : (Lf.map PyData.int).eraseIdx m = (Lf.eraseIdx m).map PyData.int := erase_map ..
        rw [e1, List.map_append]
        rfl
      · rw [List.append_assoc]
        exact ((erase_perm hm).append_left F).trans pm
    · rintro ds' pl' ⟨F, Lf, x, rfl, fl, pm, hPi⟩
      refine ws_frz (i := 5) rfl ?_
      walk_at "nz"
      refine ws_ret (we_tup (wa_cons (we_var rfl (wa_cons (we_cb (wa_cons (we_var rfl (wa_nil (cb_sortedI fun S pmS psS => ?_)))))))))
      refine wa_nil ⟨by show 2 ≤ sizeLine; decide, ?_⟩
      have inF : ∀ t ∈ S, 0 ≤ t ∧ t < (Z : Int) := fun t ht => range_in (pm.mem_iff.mp (List.mem_append_left _ (pmS.mem_iff.mp ht)))
      have nd : S.Pairwise (· ≠ ·) := by
        have h1 : ((List.range Z).map fun (i : Nat) => (i : Int)).Pairwise (· ≠ ·) := (range_up Z).imp fun h => Int.ne_of_lt h
        have h2 : (F ++ Lf).Pairwise (· ≠ ·) := (pm.pairwise_iff (fun h => Ne.symm h)).mpr h1
        exact (pmS.pairwise_iff (fun h => Ne.symm h)).mpr (List.pairwise_append.mp h2).1
      have up : S.Pairwise (· < ·) := (psS.and nd).imp fun h => by have := h.1; have := h.2; omega
      exact h _ _ ⟨⟨(Z : Int), S⟩, rfl, ⟨s1, s24, fun z => by
        have z' : S = [] := z
        have := pmS.length_eq
        rw [z', fl] at this
        have h0 : ([] : List Int).length = 0 := rfl
        omega, fun t ht => (inF t ht).1, fun t ht => (inF t ht).2, up⟩, smost⟩ (hPi.up (by show n + 5 + A ≤ n + 100; omega))

theorem ok__law_stand (T : Tx K mg) (D__law_pick : D__law_pick_ P w K mg base) (D__law_under : D__law_under_ P w K mg base) {f : Addr} {fd : FuncData} (F : Here K mg "_law_stand" s__law_stand ["jar", "pair", "far"] f fd) : D__law_stand_ P w K mg base := by
  refine F.df (fgO F.1 sc__law_stand (fun pl ds k h => ?_) fun cdv B fr s H E hg hr => ⟨_, ((pss_cons (ps_set (i := 3) sc__law_stand.nd rfl (.inl rfl) (pe_op op_sub (pe_callD D__law_pick hg (hr.mono (by decide)) (by rfl) (pa_cons (pv 0) (pa_cons (pe_op op_addU (pe_op op_mulU pe_int (pv 2)) pe_int) pa_nil))) (pv 2)))
      (pss_cons (ps_set (i := 4) sc__law_stand.nd rfl (.inl rfl) (pe_op op_sub (pe_callD D__law_pick hg (hr.mono (by decide)) (by rfl) (pa_cons (pv 0) (pa_cons (pe_op op_addU (pe_op op_mulU pe_int (pv 2)) pe_int) pa_nil))) (pv 2)))
      (pss_cons (ps_set (i := 4) sc__law_stand.nd rfl (.inl rfl) (pe_ix (r := rIx K) ix_seq (pe_lst (pa_cons (pe_callD D__law_under hg (hr.mono (by decide)) (by rfl) (pa_cons (pe_ix (r := rIx K) ix_seq (pv 1) pe_int (fun _ _ => rfl)) (pa_cons (pv 4) pa_nil))) (pa_cons (pe_op op_addU (pv 3) (pe_callD D__law_under hg (hr.mono (by decide)) (by rfl) (pa_cons (pe_ix (r := rIx K) ix_seq (pv 1) pe_int (fun _ _ => rfl)) (pa_cons (pe_op op_sub (pv 4) (pv 3)) pa_nil)))) pa_nil))) (pe_callD D__law_pick hg (hr.mono (by decide)) (by rfl) (pa_cons (pv 0) (pa_cons pe_int pa_nil))) (fun _ _ => rfl)))
      (pss_one (ps_ret (pe_tup (pa_cons (pv 4) (pa_cons (pv 3) pa_nil))))))))), ?_⟩)
  · obtain ⟨a, n, rfl, _⟩ := h; rfl
  · intro c p pl ds k hp h
    obtain ⟨⟨v, far⟩, n, rfl, ⟨ok, f0, f1⟩, hP, hn, h⟩ := h
    have ok' : v.Ok := ok
    have f0' : 1 ≤ far := f0
    have f1' : far ≤ 10 ^ 38 := f1
    have b200 : 2 * (10 : Int) ^ 38 + 1 < 2 ^ 200 := by decide +kernel
    have b38 : 3 * (10 : Int) ^ 38 + 100 < 10 ^ 40 := by decide +kernel
    walk_at "nz"
    refine ws_seq (ws_set (we_op ?_))
    refine we_draw (2 * far + 1) n rfl hp ?_
    refine wa_cons (we_op (we_op (we_int (we_var rfl ?_))))
    refine os_mulI (mulw 20 200 (by decide) (by decide) (by omega) (by omega) (by decide) (by decide) (by decide)) ?_
    refine we_int (os_addI ?_)
    refine wa_nil ⟨rfl, ⟨by omega, by omega⟩, hP, by show n < 9000000; omega, fun v1 pl1 v10 v11 hP1 => ?_⟩
    refine we_var rfl (os_sub ?_)
    obtain ⟨arm, harm⟩ : ∃ x, v1 - far = x := ⟨_, rfl⟩
    rw [harm]
    walk_at "nz"
    refine ws_seq (ws_set (we_op ?_))
    refine we_draw (2 * far + 1) (n + 1) rfl hp ?_
    refine wa_cons (we_op (we_op (we_int (we_var rfl ?_))))
    refine os_mulI (mulw 20 200 (by decide) (by decide) (by omega) (by omega) (by decide) (by decide) (by decide)) ?_
    refine we_int (os_addI ?_)
    refine wa_nil ⟨rfl, ⟨by omega, by omega⟩, hP1, by omega, fun v2 pl2 v20 v21 hP2 => ?_⟩
    refine we_var rfl (os_sub ?_)
    obtain ⟨x, hx⟩ : ∃ x, v2 - far = x := ⟨_, rfl⟩
    rw [hx]
    have g1 := flo_near ok'.1 x
    have g2 := flo_near ok'.2 (x - arm)
    walk_at "nz"
    refine ws_seq (ws_set (we_op (we_lst ?_)))
    walk_at "go"
    refine we_det (v.1, x) ?_
    walk_at "go"
    refine ⟨ok'.1, ?_⟩
    walk_at "go"
    refine we_det (v.2, x - arm) ?_
    walk_at "go"
    refine ⟨ok'.2, ?_⟩
    walk_at "go"
    refine we_draw 2 (n + 2) rfl hp ?_
    walk_at "go"
    refine ⟨hP2, by omega, fun v3 pl3 v30 v31 hP3 => ?_⟩
    walk_at "nz"
    refine os_pick (fun d => ∃ y : Int, d = .int y ∧ held v (y, arm) = true ∧ y.natAbs ≤ 10 ^ 40) v30 v31 ?_ ?_
    · intro d hd
      simp only [List.mem_cons, List.not_mem_nil, or_false] at hd
      rcases hd with rfl | rfl
      · refine ⟨_, rfl, ?_, by show (flo v.1 x).natAbs ≤ _; omega⟩
        unfold held
        rw [show caught v.1 (flo v.1 x, arm).1 = true from (flo_spec ok'.1 x).2.1]
        rfl
      · refine ⟨_, rfl, ?_, by show (arm + flo v.2 (x - arm)).natAbs ≤ _; omega⟩
        unfold held
        rw [show (arm + flo v.2 (x - arm), arm).1 - (arm + flo v.2 (x - arm), arm).2 = flo v.2 (x - arm) by show arm + flo v.2 (x - arm) - arm = _; omega, (flo_spec ok'.2 (x - arm)).2.1, Bool.or_true]
    rintro _ ⟨y, rfl, hy, yb⟩
    walk_at "go"
    exact h _ _ ⟨(y, arm), rfl, hy, yb, by show arm.natAbs ≤ _; omega⟩ (hP3.up (by show n + 2 + 1 ≤ n + 3; omega))

theorem ok__law_plain (T : Tx K mg) (D__law_row : D__law_row_ P w K mg base) {f : Addr} {fd : FuncData} (F : Here K mg "_law_plain" s__law_plain ["one", "spot"] f fd) : D__law_plain_ P w K mg base := by
  refine F.df (fgP F.1 sc__law_plain (fun ds k h => ?_) fun cdv B fr s H E hg hr => ⟨_, ((pss_cons (ps_set (i := 2) sc__law_plain.nd rfl (.inr rfl) (pe_callD D__law_row hg (hr.mono (by decide)) (by rfl) (pa_cons (pv 0) (pa_cons (pv 1) pa_nil))))
      (pss_cons (ps_for PassesOwn.never rfl (pi_range2 (by rfl) T.n_range (pa_cons pe_int (pa_cons (pe_op op_addU (pe_ix (r := rIx K) ix_seq (pv 0) pe_int (fun _ _ => rfl)) pe_int) pa_nil))) (pg_name (i := 3) sc__law_plain.nd rfl (.inr rfl)) (pss_cons (ps_setLc (i := 4) (own := [("k", 5)]) rfl sc__law_plain.nd rfl rfl (sw_true rfl rfl rfl (by decide +kernel)) (pi_range1 (by rfl) T.n_range (pa_cons (pe_ix (r := rIx K) ix_seq (pv 0) pe_int (fun _ _ => rfl)) pa_nil)) (blkOk_by (N := ["one", "spot", "row", "wide", "unlike", "k"]) (sc := defScope s__law_plain) (by decide +kernel)) (fun _ _ _ _ _ => (pg_name (i := 5) sc__law_plain.nd rfl (Or.inl rfl) (Or.inr rfl))) (fun _ _ _ _ _ => (pts_one (pt_cmpR (r := rNeU K) (op_neU hr.units) (pe_ix (r := rIx K) ix_seq (pv 2) (pv 5) (fun _ _ => rfl)) (pe_ix (r := rIx K) ix_seq (pv 2) (pe_op op_mod (pe_callTy call_int1 (by rfl) T.n_int (by decide +kernel) (pa_cons (pv 5) pa_nil)) (pv 3)) (fun _ _ => rfl)) (nomark _)))) (fun _ _ _ _ _ => (pv 5)))
      (pss_one (ps_if (PW.pt (pw_and (pt_cmpR (r := rEqU K) (op_eqU hr.units) (pe_op op_mod (pe_callTy call_int1 (by rfl) T.n_int (by decide +kernel) (pa_cons (pe_ix (r := rIx K) ix_seq (pv 0) pe_int (fun _ _ => rfl)) pa_nil)) (pv 3)) pe_int (nomark _)) (pw_and1 (pt_cmpR (r := rEqU K) (op_eqU hr.units) (pv 4) (pe_lst pa_nil) (nomark _))))) (pss_one (ps_ret (pe_tup (pa_cons (pv 3) (pa_cons (pe_lc (own := [("k", 5)]) rfl sc__law_plain.nd (pi_range1 (by rfl) T.n_range (pa_cons (pv 3) pa_nil)) (blkOk_by (N := ["one", "spot", "row", "wide", "unlike", "k"]) (sc := defScope s__law_plain) (by decide +kernel)) (fun _ _ _ _ _ => (pg_name (i := 5) sc__law_plain.nd rfl (Or.inl rfl) (Or.inr rfl))) (fun _ _ _ _ _ => (pts_one (pt_val (pe_ix (r := rIx K) ix_seq (pv 2) (pv 5) (fun _ _ => rfl))))) (fun _ _ _ _ _ => (pv 5))) pa_nil))))) pss_nil))))
      (pss_one (ps_ret pe_non))))), ?_⟩)
  · obtain ⟨a, rfl, _⟩ := h; rfl
  · intro c ds k hc h
    obtain ⟨⟨cb, s⟩, rfl, ok, h⟩ := h
    have ok' : cb.Ok := ok
    have p1 : 0 < cb.p := by have := Comb.Ok.p1 ok'; omega
    have p24 := ok'.p24
    have fin : ∀ b : Comb, Plain b → (∀ n, caught b n = caught cb (n + s)) → k b.d := fun b h1 h2 => h _ ⟨b, rfl, h1, h2⟩
    have rat : ∀ {j : Int}, 0 ≤ j → j < cb.p → ixD (.list ((catL cb s).map PyData.bool)) j = some (.bool (caught cb (s + j))) := fun {j} j0 j1 => by
      have z := rowB_get cb s (k := j.toNat) (by omega)
      rw [show ((j.toNat : Nat) : Int) = j by omega] at z
      have z2 := atI_nat z
      rw [show ((j.toNat : Nat) : Int) = j by omega] at z2
      exact z2
    walk_at "nz"
    refine ws_seq (ws_set (we_det (cb, s) (wa_cons (we_var rfl (wa_cons (we_var rfl (wa_nil ⟨rfl, ok', ?_⟩)))))))
    walk_at "nz"
    refine ws_seq ?_
    refine ws_forR2 (fun i ds' p' => ∃ x3 x4 : Option W, ds' = [some (.d cb.d), some (.d (.int s)), some (.d (.list ((catL cb s).map PyData.bool))), x3, x4, none] ∧ p' = [] ∧ ∀ q : Int, 1 ≤ q → q < 1 + (i : Int) → cb.p % q = 0 → ¬ Per cb q) 1 (cb.p + 1) ?_ ?_ ?_
    · refine wa_cons (we_int (wa_cons (we_op (we_op (we_var rfl (we_int (os_t0 (we_int (os_addI ?_)))))))))
      exact wa_nil ⟨rfl, by omega, none, none, rfl, rfl, fun q a b => by omega⟩
    · rintro i ds' p' hi ⟨x3, x4, rfl, rfl, lo⟩
      obtain ⟨q, hq⟩ : ∃ q : Int, 1 + (i : Int) = q := ⟨_, rfl⟩
      have q1 : 1 ≤ q := by omega
      have qp : q ≤ cb.p := by omega
      have step : (cb.p % q = 0 → ¬ Per cb q) → ∀ z : Int, 1 ≤ z → z < 1 + ((i + 1 : Nat) : Int) → cb.p % z = 0 → ¬ Per cb z := fun st z z1 z2 => by
        by_cases e : z = q
        · rw [e]; exact st
        · exact lo z z1 (by omega)
      rw [hq]
      refine ws_forget 4 ?_
      walk_at "nz"
      refine ws_seq (ws_set ?_)
      refine we_lcR (fun i acc p' => p' = [] ∧ acc = (((List.range i).filter fun (k : Nat) => !decide (caught cb (s + (k : Int)) = caught cb (s + (k : Int) % q))).map fun (k : Nat) => PyData.int (k : Int))) cb.p.toNat (no_of rfl _) ?_ ?_ ?_
      · refine wa_cons (we_op (we_var rfl (we_int (os_t0 ?_))))
        exact wa_nil ⟨_, rfl, rfl, by omega, by omega, rfl, rfl⟩
      · rintro j acc p' hj ⟨rfl, rfl⟩ pin
        have len : (((List.range j).filter fun (k : Nat) => !decide (caught cb (s + (k : Int)) = caught cb (s + (k : Int) % q))).map fun (k : Nat) => PyData.int (k : Int)).length < sizeLine := by
          rw [List.length_map]
          exact Nat.lt_of_le_of_lt (Nat.le_trans (List.length_filter_le _ _) (show _ ≤ 100 by rw [List.length_range]; omega)) (by decide)
        rw [List.range_succ, List.filter_append, List.map_append]
        have r0 := Int.emod_nonneg (j : Int) (show q ≠ 0 by omega)
        have r1 := Int.emod_lt_of_pos (j : Int) (show 0 < q by omega)
        have ra1 := rat (j := (j : Int)) (by omega) (by omega)
        have ra2 := rat (j := (j : Int) % q) r0 (by omega)
        have pos : (!decide (caught cb (s + (j : Int)) = caught cb (s + (j : Int) % q))) = true → ((List.filter (fun (k : Nat) => !decide (caught cb (s + (k : Int)) = caught cb (s + (k : Int) % q))) [j]).map fun (k : Nat) => PyData.int (k : Int)) = [.int (j : Int)] := fun z => by
          rw [List.filter_cons_of_pos (p := fun (k : Nat) => !decide (caught cb (s + (k : Int)) = caught cb (s + (k : Int) % q))) z]
          rfl
        have neg : ¬ (!decide (caught cb (s + (j : Int)) = caught cb (s + (j : Int) % q))) = true → ((List.filter (fun (k : Nat) => !decide (caught cb (s + (k : Int)) = caught cb (s + (k : Int) % q))) [j]).map fun (k : Nat) => PyData.int (k : Int)) = [] := fun z => by
          rw [List.filter_cons_of_neg (p := fun (k : Nat) => !decide (caught cb (s + (k : Int)) = caught cb (s + (k : Int) % q))) z]
          rfl
        obtain ⟨Lt, hLt⟩ : ∃ Lt, ((List.filter (fun (k : Nat) => !decide (caught cb (s + (k : Int)) = caught cb (s + (k : Int) % q))) [j]).map fun (k : Nat) => PyData.int (k : Int)) = Lt := ⟨_, rfl⟩
        rw [hLt] at pos neg
        rw [hLt]
        obtain ⟨j9, hj9⟩ : ∃ y : Int, (j : Int) = y := ⟨_, rfl⟩
        rw [hj9] at ra1 ra2 pos neg ⊢
        walk_at "nz"
        refine wt_B (we_op (we_op (we_var rfl (we_var rfl (os_ix ra1 ?_)))))
        refine we_op (we_var rfl ?_)
        walk_at "go"
        refine os_mod (show 0 < q by omega) ?_
        refine os_ix ra2 ?_
        refine os_neUD rfl rfl ?_
        rw [eqv_bool]
        walk_at "nz"
        refine ite2 (fun hb => ?_) (fun hb => ?_)
        · rw [pos hb]
          exact we_var rfl ⟨len, rfl, rfl⟩
        · rw [neg hb]
          exact ⟨rfl, (List.append_nil _).symm⟩
      rintro acc p' ⟨rfl, rfl⟩
      obtain ⟨U, hU⟩ : ∃ U, ((List.range cb.p.toNat).filter fun (k : Nat) => !decide (caught cb (s + (k : Int)) = caught cb (s + (k : Int) % q))) = U := ⟨_, rfl⟩
      have Unil : U = [] ↔ ∀ k : Nat, k < cb.p.toNat → caught cb (s + (k : Int)) = caught cb (s + (k : Int) % q) := by
        rw [← hU, List.filter_eq_nil_iff]
        constructor
        · intro z k hk
          have := z k (List.mem_range.mpr hk)
          simpa using this
        · intro z k hk
          have := z k (List.mem_range.mp hk)
          simpa using this
      have Uok : okD 20 (.list (U.map fun (k : Nat) => PyData.int (k : Int))) := fun x hx => by
        obtain ⟨k, hk, rfl⟩ := List.mem_map.mp hx
        rw [← hU] at hk
        have := List.mem_range.mp (List.mem_filter.mp hk).1
        exact small24 (by omega) (by omega)
      rw [hU]
      walk_at "nz"
      refine ws_if (wt_and (wt_B (we_op ?_)))
      walk_at "go"
      refine os_mod (show 0 < q by omega) ?_
      refine we_int (os_eqI ?_)
      walk_at "nz"
      refine ite2 (fun hb2 => ?_) (fun hb2 => ?_)
      · have qd : cb.p % q = 0 := of_decide_eq_true hb2
        refine wt_B (we_op (we_var rfl (we_lst (wa_nil ⟨by decide, ?_⟩))))
        refine os_eqNil Uok ?_
        walk_at "nz"
        refine ite2 (fun hb3 => ?_) (fun hb3 => ?_)
        · have Ue : U = [] := List.map_eq_nil_iff.mp (of_decide_eq_true hb3)
          have per := (row_per ok' q1 qd s).mp (Unil.mp Ue)
          obtain ⟨pl9, cat9⟩ := beg_ok ok' q1 qp qd per (fun z z1 z2 => lo z z1 (by omega)) s
          refine ws_ret (we_tup (wa_cons (we_var rfl (wa_cons ?_))))
          refine we_lcR (fun i acc p' => p' = [] ∧ acc = (((List.range i).filter fun (k : Nat) => caught cb (s + (k : Int))).map fun (k : Nat) => (k : Int)).map PyData.int) q.toNat (no_of rfl _) ?_ ?_ ?_
          · exact wa_cons (we_var rfl (wa_nil ⟨_, rfl, rfl, by omega, by omega, rfl, rfl⟩))
          · rintro j acc p' hj ⟨rfl, rfl⟩ pin
            have len : ((((List.range j).filter fun (k : Nat) => caught cb (s + (k : Int))).map fun (k : Nat) => (k : Int)).map PyData.int).length < sizeLine := by
              rw [List.length_map, List.length_map]
              exact Nat.lt_of_le_of_lt (Nat.le_trans (List.length_filter_le _ _) (show _ ≤ 100 by rw [List.length_range]; omega)) (by decide)
            have ra1 := rat (j := (j : Int)) (by omega) (by omega)
            rw [List.range_succ, List.filter_append, List.map_append, List.map_append]
            have pos : caught cb (s + (j : Int)) = true → ((List.filter (fun (k : Nat) => caught cb (s + (k : Int))) [j]).map fun (k : Nat) => (k : Int)).map PyData.int = [.int (j : Int)] := fun z => by
              rw [List.filter_cons_of_pos (p := fun (k : Nat) => caught cb (s + (k : Int))) z]
              rfl
            have neg : ¬ caught cb (s + (j : Int)) = true → ((List.filter (fun (k : Nat) => caught cb (s + (k : Int))) [j]).map fun (k : Nat) => (k : Int)).map PyData.int = [] := fun z => by
              rw [List.filter_cons_of_neg (p := fun (k : Nat) => caught cb (s + (k : Int))) z]
              rfl
            obtain ⟨Lt, hLt⟩ : ∃ Lt, ((List.filter (fun (k : Nat) => caught cb (s + (k : Int))) [j]).map fun (k : Nat) => (k : Int)).map PyData.int = Lt := ⟨_, rfl⟩
            rw [hLt] at pos neg
            rw [hLt]
            obtain ⟨j9, hj9⟩ : ∃ y : Int, (j : Int) = y := ⟨_, rfl⟩
            rw [hj9] at ra1 pos neg ⊢
            walk_at "nz"
            refine wt_T (we_op (we_var rfl (we_var rfl (os_ix ra1 ?_))))
            cases hcc : caught cb (s + j9) with
            | true =>
              walk_at "nz"
              refine iteV rfl ?_
              rw [pos hcc]
              exact we_var rfl ⟨len, rfl, rfl⟩
            | false =>
              walk_at "nz"
              refine iteN rfl ?_
              rw [neg (by rw [hcc]; decide)]
              exact ⟨rfl, (List.append_nil _).symm⟩
          rintro acc p' ⟨rfl, rfl⟩
          refine wa_nil ⟨by show 2 ≤ sizeLine; decide, ?_⟩
          exact fin ⟨q, begT cb s q⟩ pl9 cat9
        · refine ws_next ?_
          refine ⟨_, _, rfl, rfl, step fun qd per => hb3 (decide_eq_true ?_)⟩
          rw [Unil.mpr ((row_per ok' q1 qd s).mpr per)]
          rfl
      · refine ws_next ?_
        exact ⟨_, _, rfl, rfl, step fun qd => absurd (decide_eq_true qd) hb2⟩
    · rintro ds' p' ⟨x3, x4, rfl, rfl, lo⟩
      exact absurd (per_own cb) (lo cb.p (by omega) (by omega) (Int.emod_self))

theorem ok_check_comb (T : Tx K mg) (D_are_teeth : D_are_teeth_ P w K mg base) (D_is_pair : D_is_pair_ P w K mg base) (D_is_pitch : D_is_pitch_ P w K mg base) {f : Addr} {fd : FuncData} (F : Here K mg "check_comb" s_check_comb ["comb"] f fd) : D_check_comb_ P w K mg base := by
  refine F.df (fgP F.1 sc_check_comb (fun ds k h => ?_) fun cdv B fr s H E hg hr => ⟨_, ((pss_cons (ps_if (pt_not (pt_val (pe_callD D_is_pair hg (hr.mono (by decide)) (by rfl) (pa_cons (pv 0) pa_nil)))) (pss_one ps_never) pss_nil)
      (pss_cons (ps_asg (pv 0) (pg_tup (n := 2) rfl (pgs_cons (pg_name (i := 1) sc_check_comb.nd rfl (.inl rfl)) (pgs_cons (pg_name (i := 2) sc_check_comb.nd rfl (.inl rfl)) pgs_nil))))
      (pss_cons (ps_if (pt_not (pt_val (pe_callD D_is_pitch hg (hr.mono (by decide)) (by rfl) (pa_cons (pv 1) pa_nil)))) (pss_one ps_never) pss_nil)
      (pss_one (ps_if (pt_not (pt_val (pe_callD D_are_teeth hg (hr.mono (by decide)) (by rfl) (pa_cons (pv 2) (pa_cons (pv 1) pa_nil))))) (pss_one ps_never) pss_nil)))))), ?_⟩)
  · obtain ⟨a, rfl, _⟩ := h; rfl
  · intro c ds k hc h
    obtain ⟨cb, rfl, ok, h⟩ := h
    have ok' : cb.Ok := ok
    have ip : isPitch (.int cb.p) = true := by unfold isPitch; exact decide_eq_true ⟨ok'.p1, ok'.p24⟩
    walk_at "go"
    refine we_det cb.d ?_
    walk_at "go"
    refine we_det (.int cb.p) ?_
    walk_at "go"
    refine iteN (by rw [ip]; rfl) ?_
    walk_at "go"
    refine we_det cb ?_
    walk_at "go"
    refine ⟨ok', ?_⟩
    walk_at "go"
    exact h

theorem ok_is_comb (T : Tx K mg) (D_are_teeth : D_are_teeth_ P w K mg base) (D_is_pair : D_is_pair_ P w K mg base) (D_is_pitch : D_is_pitch_ P w K mg base) {f : Addr} {fd : FuncData} (F : Here K mg "is_comb" s_is_comb ["value"] f fd) : D_is_comb_ P w K mg base := by
  refine F.df (fgP F.1 sc_is_comb (fun ds k h => ?_) fun cdv B fr s H E hg hr => ⟨_, ((pss_one (ps_ret (pe_and (pe_callD D_is_pair hg (hr.mono (by decide)) (by rfl) (pa_cons (pv 0) pa_nil)) (pe_and (pe_callD D_is_pitch hg (hr.mono (by decide)) (by rfl) (pa_cons (pe_ix (r := rIx K) ix_seq (pv 0) pe_int (fun _ _ => rfl)) pa_nil)) (pe_one (pe_callD D_are_teeth hg (hr.mono (by decide)) (by rfl) (pa_cons (pe_ix (r := rIx K) ix_seq (pv 0) pe_int (fun _ _ => rfl)) (pa_cons (pe_ix (r := rIx K) ix_seq (pv 0) pe_int (fun _ _ => rfl)) pa_nil))))))))), ?_⟩)
  · obtain ⟨a, rfl, _⟩ := h; rfl
  · intro c ds k hc h
    obtain ⟨cb, rfl, ok, h⟩ := h
    walk_at "go"
    refine we_det cb.d ?_
    walk_at "go"
    refine we_det (.int cb.p) ?_
    walk_at "go"
    have e : isPitch (.int cb.p) = true := decide_eq_true ⟨Comb.Ok.p1 ok, Comb.Ok.p24 ok⟩
    rw [e]
    walk_at "go"
    refine we_det cb ?_
    walk_at "go"
    exact ⟨ok, h⟩

theorem ok_fits_device (T : Tx K mg) (D_is_held : D_is_held_ P w K mg base) (D_is_whole_pair : D_is_whole_pair_ P w K mg base) {f : Addr} {fd : FuncData} (F : Here K mg "fits_device" s_fits_device ["device", "value"] f fd) : D_fits_device_ P w K mg base := by
  refine F.df (fgP F.1 sc_fits_device (fun ds k h => ?_) fun cdv B fr s H E hg hr => ⟨_, ((pss_one (ps_ret (pe_and (pe_callD D_is_whole_pair hg (hr.mono (by decide)) (by rfl) (pa_cons (pv 1) pa_nil)) (pe_one (pe_callD D_is_held hg (hr.mono (by decide)) (by rfl) (pa_cons (pv 0) (pa_cons (pe_ix (r := rIx K) ix_seq (pv 1) pe_int (fun _ _ => rfl)) (pa_cons (pe_ix (r := rIx K) ix_seq (pv 1) pe_int (fun _ _ => rfl)) pa_nil))))))))), ?_⟩)
  · obtain ⟨a, rfl, _⟩ := h; rfl
  · intro c ds k hc h
    obtain ⟨⟨v, s⟩, rfl, ok, h⟩ := h
    walk_at "go"
    refine we_det (s.d) ?_
    walk_at "go"
    refine we_det (v, s) ?_
    walk_at "go"
    exact ⟨ok, h⟩

theorem ok__law_pair (T : Tx K mg) (D__law_comb : D__law_comb_ P w K mg base) (D__law_pick : D__law_pick_ P w K mg base) {f : Addr} {fd : FuncData} (F : Here K mg "_law_pair" s__law_pair ["jar", "most"] f fd) : D__law_pair_ P w K mg base := by
  refine F.df (fgO F.1 sc__law_pair (fun pl ds k h => ?_) fun cdv B fr s H E hg hr => ⟨_, ((pss_cons (ps_par (i := 2) (j := 3) rfl sc__law_pair.nd rfl rfl (by decide) rfl rfl (pa_cons (pe_callD D__law_comb hg (hr.mono (by decide)) (by rfl) (pa_cons (pv 0) (pa_cons (pv 1) pa_nil))) (pa_cons (pe_callD D__law_comb hg (hr.mono (by decide)) (by rfl) (pa_cons (pv 0) (pa_cons (pv 1) pa_nil))) pa_nil)) (by rfl))
      (pss_cons (ps_if (pt_cmpR (r := rEqU K) (op_eqU hr.units) (pe_callD D__law_pick hg (hr.mono (by decide)) (by rfl) (pa_cons (pv 0) (pa_cons pe_int pa_nil))) pe_int (nomark _)) (pss_one (ps_set (i := 3) sc__law_pair.nd rfl (.inl rfl) (pe_tup (pa_cons (pe_ix (r := rIx K) ix_seq (pv 2) pe_int (fun _ _ => rfl)) (pa_cons (pe_callTy (r := rListQ K) call_list_of (by rfl) T.n_list (by decide +kernel) (pa_cons (pe_ix (r := rIx K) ix_seq (pv 2) pe_int (fun _ _ => rfl)) pa_nil)) pa_nil))))) pss_nil)
      (pss_one (ps_ret (pe_tup (pa_cons (pv 2) (pa_cons (pv 3) pa_nil)))))))), ?_⟩)
  · obtain ⟨a, n, rfl, _⟩ := h; rfl
  · intro c p pl ds k hp h
    obtain ⟨most, n, rfl, ⟨t0, t1⟩, hP, hn, h⟩ := h
    have t0' : 1 ≤ most := t0
    have t1' : most ≤ 24 := t1
    walk_at "nz"
    refine ws_seq (ws_par ?_)
    refine wa_cons (we_pool most rfl hp ?_)
    walk_at "go"
    refine ⟨⟨t0, t1⟩, n, hP, by omega, fun d1 pl1 q1 hP1 => ?_⟩
    obtain ⟨g, rfl, gok, gp⟩ := q1
    refine wa_cons (we_pool most rfl hp ?_)
    walk_at "go"
    refine ⟨⟨t0, t1⟩, n + 100, hP1, by omega, fun d2 pl2 q2 hP2 => ?_⟩
    obtain ⟨g2, rfl, gok2, gp2⟩ := q2
    walk_at "nz"
    refine wa_nil ⟨_, _, rfl, ?_⟩
    walk_at "nz"
    refine ws_seq (ws_if (wt_T (we_op ?_)))
    refine we_draw 4 (n + 200) rfl hp ?_
    walk_at "go"
    refine ⟨hP2, by omega, fun v2 pl3 v20 v21 hP3 => ?_⟩
    walk_at "go"
    walk_at "nz"
    refine ite_ws (fun ds' p' => ∃ g3 : Comb, ds' = [some (.v (.ref p)), some (.d (.int most)), some (.d g.d), some (.d g3.d)] ∧ p' = pl3 ∧ g3.Ok ∧ g3.p ≤ most) (fun hb => ?_) (fun hb => ?_) ?_
    · walk_at "go"
      refine cb_list ?_
      walk_at "nz"
      refine wa_nil ⟨by show 2 ≤ sizeLine; decide, ?_⟩
      walk_at "nz"
      exact ⟨g, rfl, rfl, gok, gp⟩
    · refine ws_next ?_
      exact ⟨g2, rfl, rfl, gok2, gp2⟩
    rintro ds' p' ⟨g3, rfl, rfl, gok3, gp3⟩
    walk_at "go"
    exact h _ _ ⟨(g, g3), rfl, ⟨gok, gok3⟩, gp, gp3⟩ (hP3.up (by show n + 200 + 1 ≤ n + 300; omega))

theorem ok_check_device (T : Tx K mg) (D_is_comb : D_is_comb_ P w K mg base) (D_is_pair : D_is_pair_ P w K mg base) {f : Addr} {fd : FuncData} (F : Here K mg "check_device" s_check_device ["device"] f fd) : D_check_device_ P w K mg base := by
  refine F.df (fgP F.1 sc_check_device (fun ds k h => ?_) fun cdv B fr s H E hg hr => ⟨_, ((pss_cons (ps_if (pt_not (pt_val (pe_callD D_is_pair hg (hr.mono (by decide)) (by rfl) (pa_cons (pv 0) pa_nil)))) (pss_one ps_never) pss_nil)
      (pss_one (ps_for PassesOwn.never rfl (pi_enumT (by rfl) T.n_enumerate (pa_cons (pv 0) pa_nil)) (pg_tup (n := 2) rfl (pgs_cons (pg_name (i := 1) sc_check_device.nd rfl (.inl rfl)) (pgs_cons (pg_name (i := 2) sc_check_device.nd rfl (.inl rfl)) pgs_nil))) (pss_one (ps_if (pt_not (pt_val (pe_callD D_is_comb hg (hr.mono (by decide)) (by rfl) (pa_cons (pv 2) pa_nil)))) (pss_one ps_never) pss_nil)))))), ?_⟩)
  · obtain ⟨a, rfl, _⟩ := h; rfl
  · intro c ds k hc h
    obtain ⟨⟨g, r⟩, rfl, ok, h⟩ := h
    walk_at "go"
    refine we_det (Dv.d (g, r)) ?_
    walk_at "go"
    refine ws_forET (fun i ds' pl' => ∃ a b, ds' = [some (.d (Dv.d (g, r))), a, b]) [g.d, r.d] ?_ ?_ ?_
    · walk_at "go"
      exact ⟨_, _, rfl⟩
    · rintro i x ds' pl' hx ⟨a, b, rfl⟩
      have hx2 : ∃ cb : Comb, cb.Ok ∧ x = cb.d := by
        match i, hx with
        | 0, hx => exact ⟨g, ok.1, (Option.some.inj hx).symm⟩
        | 1, hx => exact ⟨r, ok.2, (Option.some.inj hx).symm⟩
        | i + 2, hx => simp at hx
      obtain ⟨cb, okc, rfl⟩ := hx2
      walk_at "go"
      refine we_det cb ?_
      walk_at "go"
      refine ⟨okc, ?_⟩
      walk_at "go"
      exact ⟨_, _, rfl⟩
    · rintro ds' pl' ⟨a, b, rfl⟩
      exact h

theorem ok_plain_comb (T : Tx K mg) (D_check_comb : D_check_comb_ P w K mg base) (D_copied_comb : D_copied_comb_ P w K mg base) (D_repeated_teeth : D_repeated_teeth_ P w K mg base) (D_teeth_under : D_teeth_under_ P w K mg base) {f : Addr} {fd : FuncData} (F : Here K mg "plain_comb" s_plain_comb ["comb"] f fd) : D_plain_comb_ P w K mg base := by
  refine F.df (fgW F.1 sc_plain_comb (fun ds k h => ?_) fun cdv B fr s H E hg hr => ⟨_, ((pss_cons (ps_expr (pe_callD D_check_comb hg (hr.mono (by decide)) (by rfl) (pa_cons (pv 0) pa_nil)))
      (pss_cons (ps_asg (pv 0) (pg_tup (n := 2) rfl (pgs_cons (pg_name (i := 1) sc_plain_comb.nd rfl (.inl rfl)) (pgs_cons (pg_name (i := 2) sc_plain_comb.nd rfl (.inl rfl)) pgs_nil))))
      (pss_cons (ps_for PassesOwn.never rfl (pi_range2 (by rfl) T.n_range (pa_cons pe_int (pa_cons (pv 1) pa_nil))) (pg_name (i := 3) sc_plain_comb.nd rfl (.inl rfl)) (pss_one (ps_if (PW.pt (pw_and (pt_cmpR (r := rEqU K) (op_eqU hr.units) (pe_op op_mod (pv 1) (pv 3)) pe_int (nomark _)) (pw_and1 (pt_cmpR (r := rEqU K) (op_eqU hr.units) (pe_callD D_repeated_teeth hg (hr.mono (by decide)) (by rfl) (pa_cons (pv 2) (pa_cons (pv 3) (pa_cons (pv 1) pa_nil)))) (pv 2) (nomark _))))) (pss_one (ps_ret (pe_tup (pa_cons (pv 3) (pa_cons (pe_callD D_teeth_under hg (hr.mono (by decide)) (by rfl) (pa_cons (pv 2) (pa_cons (pv 3) pa_nil))) pa_nil))))) pss_nil)))
      (pss_one (ps_ret (pe_callD D_copied_comb hg (hr.mono (by decide)) (by rfl) (pa_cons (pv 0) pa_nil)))))))), ?_⟩)
  · obtain ⟨a, rfl, _⟩ := h; rfl
  · intro c ds k hc h D' G0 hk
    obtain ⟨cb, rfl, ok, h⟩ := h
    have ok' : cb.Ok := ok
    have p1 := ok'.p1
    have p24 := ok'.p24
    have len := ok'.len
    walk_at "nz"
    refine wsk_seq ?_
    walk_at "go"
    refine we_det cb ?_
    walk_at "go"
    refine ⟨ok', ?_⟩
    walk_at "nz"
    refine wsk_seq (ws_unpN rfl (we_var rfl ⟨_, _, rfl, ?_⟩))
    walk_at "nz"
    refine wsk_forR2 (fun i ds' p' => ∃ x, ds' = [some (.d cb.d), some (.d (.int cb.p)), some (.d (.list (cb.ts.map PyData.int))), x] ∧ p' = [] ∧ ∀ q : Int, 1 ≤ q → q < 1 + (i : Int) → cb.p % q = 0 → ¬ Per cb q) 1 cb.p ?_ ?_ ?_
    · refine wa_cons (we_int (wa_cons (we_var rfl (wa_nil ⟨rfl, by omega, _, rfl, rfl, fun q a b => by omega⟩))))
    · rintro i ds' p' hi ⟨x, rfl, rfl, lo⟩ D2 D2r nxt
      obtain ⟨q, hq⟩ : ∃ q : Int, 1 + (i : Int) = q := ⟨_, rfl⟩
      have q1 : 1 ≤ q := by omega
      have qp : q < cb.p := by omega
      have step : (cb.p % q = 0 → ¬ Per cb q) → ∀ z : Int, 1 ≤ z → z < 1 + ((i + 1 : Nat) : Int) → cb.p % z = 0 → ¬ Per cb z := fun s z z1 z2 => by
        by_cases e : z = q
        · rw [e]; exact s
        · exact lo z z1 (by omega)
      have go : (cb.p % q = 0 → ¬ Per cb q) → ∀ {G : Hp} {σ : L2.St} {H : Hp} {x : Option W}, HS c G σ H [some (.d cb.d), some (.d (.int cb.p)), some (.d (.list (cb.ts.map PyData.int))), x] [] → Ex G0 G → D2.nx σ H := fun s {G σ H x} hs e => nxt G σ H _ _ hs e ⟨x, rfl, rfl, step s⟩
      rw [hq]
      walk_at "nz"
      refine wsk_if (wt_and (wt_B (we_op (we_op (we_var rfl (we_var rfl ?_))))))
      refine os_mod (show 0 < q by omega) ?_
      refine we_int (os_eqI ?_)
      walk_at "nz"
      refine ite2 (fun hb2 => ?_) (fun hb2 => ?_)
      · have qd : cb.p % q = 0 := of_decide_eq_true hb2
        have hN : (((cb.p.toNat + q.toNat - 1) / q.toNat : Nat) : Int) * q = cb.p := by
          obtain ⟨m, hm⟩ := Int.dvd_of_emod_eq_zero qd
          have m0 : 0 < m := by
            rcases Int.lt_or_le 0 m with z | z
            · exact z
            · have := Int.mul_le_mul_of_nonneg_left z (show 0 ≤ q by omega)
              rw [Int.mul_zero] at this
              omega
          obtain ⟨mn, hmn⟩ : ∃ y : Nat, m = (y : Int) := ⟨m.toNat, by omega⟩
          obtain ⟨qn, hqn⟩ : ∃ y : Nat, q = (y : Int) := ⟨q.toNat, by omega⟩
          have pe : cb.p.toNat = qn * mn := by rw [hm, hmn, hqn, ← Int.natCast_mul]; exact Int.toNat_natCast _
          have qe : q.toNat = qn := by omega
          rw [pe, qe]
          have dv : (qn * mn + qn - 1) / qn = mn := by
            rw [show qn * mn + qn - 1 = (qn - 1) + qn * mn by omega, Nat.add_mul_div_left _ _ (by omega), Nat.div_eq_of_lt (by omega), Nat.zero_add]
          rw [dv, hm, hmn, hqn, Int.mul_comm]
        refine wt_B (we_op ?_)
        refine we_det (cb.ts, q, cb.p) (wa_cons (we_var rfl (wa_cons (we_var rfl (wa_cons (we_var rfl (wa_nil ⟨rfl, ⟨by show cb.ts.length ≤ 24; omega, q1, by show q ≤ 24; omega, by show 0 ≤ cb.p; omega, p24⟩, ?_⟩)))))))
        refine we_var rfl (os_eqUD (ints_shaped _) (ints_shaped _) ?_)
        have per := rep_per ok' q1 qp qd hN
        have eqvI : PyData.eqv (.list ((repT cb.ts q ((cb.p.toNat + q.toNat - 1) / q.toNat)).map PyData.int)) (.list (cb.ts.map PyData.int)) = decide (repT cb.ts q ((cb.p.toNat + q.toNat - 1) / q.toNat) = cb.ts) := eqv_ints _ _
        rw [eqvI]
        walk_at "nz"
        refine ite2 (fun hb3 => ?_) (fun hb3 => ?_)
        · have pr := per.mp (of_decide_eq_true hb3)
          obtain ⟨bo, same⟩ := part_ok ok' q1 qp qd pr
          intro G σ H hs e
          obtain ⟨v3, a1, a2⟩ := hs.slots 3 _ rfl
          obtain ⟨v2, b1, b2⟩ := hs.slots 2 _ rfl
          have a2' : R G v3 (.int q) := a2
          cases a2'
          refine ⟨_, a1, _, b1, _, a1, G, [.list (cb.ts.map PyData.int), .int q], hs.sub, .cons b2 (.cons (.int _) .nil), (cb.ts, q), rfl, by show cb.ts.length ≤ 24; omega, fun la H1 x1 x2 x3 => ⟨by show 2 ≤ sizeLine; decide, fun a ha => ?_⟩⟩
          rw [D2r]
          have ala : H1 la = some (.lst ((under cb.ts q).map V.int)) := x2 _ _ one_at
          have n : a ≠ la := fun z => by rw [z, ala] at ha; cases ha
          have keepH : ∀ x o, c.H0 x = some o → H x = some o := fun x o z => hs.keep x o (by rw [hc]; simp) z
          refine hk (combP ⟨q, under cb.ts q⟩ a la) (.ref a) _ (h ⟨q, under cb.ts q⟩ a la n ⟨bo, same, by show q ≤ cb.p; omega, qd, fun z z1 z2 => lo z z1 (by have : z < q := z2; omega)⟩) (fun x o z => Ex.new ha _ _ (x1 _ _ (keepH _ _ z))) (fun x o z => ?_) fun x o z => ?_
          · unfold combP at z
            by_cases y : x = a
            · subst y; rw [if_pos rfl] at z; cases z; exact upd_same
            · rw [if_neg y] at z
              by_cases y2 : x = la
              · subst y2; rw [if_pos rfl] at z; cases z; rw [upd_ne y]; exact ala
              · rw [if_neg y2] at z; cases z
          · rcases combP_some z with rfl | rfl
            · cases y : c.H0 x with
              | none => rfl
              | some o => rw [x1 _ _ (keepH _ _ y)] at ha; cases ha
            · exact (hs.none_of (x3 _ _ one_at)).2.2.2.2
        · intro G σ H hs e
          exact go (fun _ pr => hb3 (decide_eq_true (per.mpr pr))) hs e
      · intro G σ H hs e
        exact go (fun qd => absurd (decide_eq_true qd) hb2) hs e
    · rintro ds' p' ⟨x, rfl, rfl, lo⟩
      walk_at "nz"
      refine wsk_retW hc ?_ copyF_mono
      refine wa_cons (we_var rfl (wa_nil ⟨cb, rfl, fun a la n H' e1 e2 e3 => ?_⟩))
      exact hk _ _ _ (h cb a la n ⟨ok', fun _ => rfl, Int.le_refl _, Int.emod_self, fun q z1 z2 => lo q z1 (by omega)⟩) e1 e2 e3

theorem ok_check_state (T : Tx K mg) (D_fits_device : D_fits_device_ P w K mg base) {f : Addr} {fd : FuncData} (F : Here K mg "check_state" s_check_state ["device", "state"] f fd) : D_check_state_ P w K mg base := by
  refine F.df (fgP F.1 sc_check_state (fun ds k h => ?_) fun cdv B fr s H E hg hr => ⟨_, ((pss_one (ps_if (pt_not (pt_val (pe_callD D_fits_device hg (hr.mono (by decide)) (by rfl) (pa_cons (pv 0) (pa_cons (pv 1) pa_nil))))) (pss_one ps_never) pss_nil))), ?_⟩)
  · obtain ⟨a, rfl, _⟩ := h; rfl
  · intro c ds k hc h
    obtain ⟨⟨v, s⟩, rfl, ⟨ok, hh⟩, h⟩ := h
    walk_at "go"
    refine we_det (v, s) ?_
    walk_at "go"
    refine ⟨ok, ?_⟩
    have hh' : held v s = true := hh
    rw [hh']
    walk_at "go"
    exact h

theorem ok_check_begun (T : Tx K mg) (D_check_device : D_check_device_ P w K mg base) (D_check_state : D_check_state_ P w K mg base) {f : Addr} {fd : FuncData} (F : Here K mg "check_begun" s_check_begun ["device", "state"] f fd) : D_check_begun_ P w K mg base := by
  refine F.df (fgP F.1 sc_check_begun (fun ds k h => ?_) fun cdv B fr s H E hg hr => ⟨_, ((pss_cons (ps_expr (pe_callD D_check_device hg (hr.mono (by decide)) (by rfl) (pa_cons (pv 0) pa_nil)))
      (pss_one (ps_expr (pe_callD D_check_state hg (hr.mono (by decide)) (by rfl) (pa_cons (pv 0) (pa_cons (pv 1) pa_nil))))))), ?_⟩)
  · obtain ⟨a, rfl, _⟩ := h; rfl
  · intro c ds k hc h
    obtain ⟨⟨v, s⟩, rfl, ⟨ok, hh⟩, h⟩ := h
    walk_at "go"
    refine we_det v ?_
    walk_at "go"
    refine ⟨ok, ?_⟩
    walk_at "go"
    refine we_det (v, s) ?_
    walk_at "go"
    refine ⟨⟨ok, hh⟩, ?_⟩
    walk_at "go"
    exact h

theorem ok_shifted_comb (T : Tx K mg) (D_plain_comb : D_plain_comb_ P w K mg base) {f : Addr} {fd : FuncData} (F : Here K mg "shifted_comb" s_shifted_comb ["comb", "distance"] f fd) : D_shifted_comb_ P w K mg base := by
  refine F.df (fgW F.1 sc_shifted_comb (fun ds k h => ?_) fun cdv B fr s H E hg hr => ⟨_, ((pss_cons (ps_asg (pv 0) (pg_tup (n := 2) rfl (pgs_cons (pg_name (i := 2) sc_shifted_comb.nd rfl (.inr rfl)) (pgs_cons (pg_name (i := 3) sc_shifted_comb.nd rfl (.inl rfl)) pgs_nil))))
      (pss_one (ps_ret (pe_callD D_plain_comb hg (hr.mono (by decide)) (by rfl) (pa_cons (pe_tup (pa_cons (pv 2) (pa_cons (pe_callB (r := rSortedI K) cr_sortedI (by rfl) T.n_sorted (by decide +kernel) (pa_cons (pe_lc (own := [("tooth", 4)]) rfl sc_shifted_comb.nd (pi_list (pv 3)) (blkOk_by (N := ["comb", "distance", "pitch", "teeth", "tooth"]) (sc := defScope s_shifted_comb) (by decide +kernel)) (fun _ _ _ _ _ => (pg_name (i := 4) sc_shifted_comb.nd rfl (Or.inl rfl) (Or.inr rfl))) (fun _ _ _ _ _ => pts_nil) (fun _ _ _ _ _ => (pe_op op_mod (pe_op op_sub (pv 4) (pv 1)) (pv 2)))) pa_nil)) pa_nil))) pa_nil)))))), ?_⟩)
  · obtain ⟨a, rfl, _⟩ := h; rfl
  · intro c ds k hc h D' G0 hk
    obtain ⟨⟨cb, d⟩, rfl, ok, h⟩ := h
    have ok' : cb.Ok := ok
    have p1 : 0 < cb.p := by have := Comb.Ok.p1 ok'; omega
    have p24 := ok'.p24
    have l1 := sorted_len ok'.up ok'.low ok'.high
    walk_at "nz"
    refine wsk_seq (ws_unpN rfl (we_var rfl ⟨_, _, rfl, ?_⟩))
    walk_at "nz"
    refine wsk_retW hc ?_ plainF_mono
    refine wa_cons (we_tup (wa_cons (we_var rfl (wa_cons (we_cb (wa_cons ?_))))))
    refine we_lcM cb.ts PyData.int (fun t => PyData.int ((t - d) % cb.p)) (Nat.lt_of_le_of_lt (show _ ≤ 100 by omega) (by decide)) (no_of rfl _) ?_ ?_
    · refine we_var rfl ⟨rfl, ?_⟩
      rw [show (cb.ts.map fun t => PyData.int ((t - d) % cb.p)) = (cb.ts.map fun t => (t - d) % cb.p).map PyData.int by rw [List.map_map]; rfl]
      refine wa_nil (cb_sortedI fun S pm up => ?_)
      obtain ⟨okS, catS⟩ := shift_ok ok' d pm up
      refine wa_nil ⟨by show 2 ≤ sizeLine; decide, ?_⟩
      refine wa_nil ⟨Comb.mk cb.p S, rfl, okS, fun b a la n q H' e1 e2 e3 => ?_⟩
      obtain ⟨ob, same, h1, h2, h3⟩ := q
      exact hk _ _ _ (h b a la n ⟨plain_of ob same h1 h2 h3, fun n => by rw [same, catS]⟩) e1 e2 e3
    · intro p' t ht pin
      walk_at "go"
      refine os_mod p1 ?_
      exact ⟨rfl, rfl⟩

theorem ok_check_both (T : Tx K mg) (D_check_begun : D_check_begun_ P w K mg base) {f : Addr} {fd : FuncData} (F : Here K mg "check_both" s_check_both ["device", "state", "second", "start"] f fd) : D_check_both_ P w K mg base := by
  refine F.df (fgP F.1 sc_check_both (fun ds k h => ?_) fun cdv B fr s H E hg hr => ⟨_, ((pss_cons (ps_expr (pe_callD D_check_begun hg (hr.mono (by decide)) (by rfl) (pa_cons (pv 0) (pa_cons (pv 1) pa_nil))))
      (pss_one (ps_expr (pe_callD D_check_begun hg (hr.mono (by decide)) (by rfl) (pa_cons (pv 2) (pa_cons (pv 3) pa_nil))))))), ?_⟩)
  · obtain ⟨a, rfl, _⟩ := h; rfl
  · intro c ds k hc h
    obtain ⟨⟨⟨v, s⟩, w', t⟩, rfl, ⟨hv, hw⟩, h⟩ := h
    walk_at "go"
    refine we_det (v, s) ?_
    walk_at "go"
    refine ⟨hv, ?_⟩
    walk_at "go"
    refine we_det (w', t) ?_
    walk_at "go"
    exact ⟨hw, h⟩

theorem ok_shifted_device (T : Tx K mg) (D_shifted_comb : D_shifted_comb_ P w K mg base) {f : Addr} {fd : FuncData} (F : Here K mg "shifted_device" s_shifted_device ["device", "state"] f fd) : D_shifted_device_ P w K mg base := by
  refine F.df (fgW F.1 sc_shifted_device (fun ds k h => ?_) fun cdv B fr s H E hg hr => ⟨_, ((pss_cons (ps_asg (pv 0) (pg_tup (n := 2) rfl (pgs_cons (pg_name (i := 2) sc_shifted_device.nd rfl (.inl rfl)) (pgs_cons (pg_name (i := 3) sc_shifted_device.nd rfl (.inl rfl)) pgs_nil))))
      (pss_cons (ps_asg (pv 1) (pg_tup (n := 2) rfl (pgs_cons (pg_name (i := 4) sc_shifted_device.nd rfl (.inl rfl)) (pgs_cons (pg_name (i := 5) sc_shifted_device.nd rfl (.inl rfl)) pgs_nil))))
      (pss_one (ps_ret (pe_tup (pa_cons (pe_callD D_shifted_comb hg (hr.mono (by decide)) (by rfl) (pa_cons (pv 2) (pa_cons (pv 4) pa_nil))) (pa_cons (pe_callD D_shifted_comb hg (hr.mono (by decide)) (by rfl) (pa_cons (pv 3) (pa_cons (pe_op op_sub (pv 4) (pv 5)) pa_nil))) pa_nil)))))))), ?_⟩)
  · obtain ⟨a, rfl, _⟩ := h; rfl
  · intro c ds k hc h D' G0 hk
    obtain ⟨⟨v, s⟩, rfl, ok, h⟩ := h
    have ok' : v.Ok := ok
    walk_at "nz"
    refine wsk_seq (ws_unpN rfl (we_var rfl ⟨_, _, rfl, ?_⟩))
    walk_at "nz"
    refine wsk_seq (ws_unpN rfl (we_var rfl ⟨_, _, rfl, ?_⟩))
    walk_at "nz"
    intro G σ H hs e
    obtain ⟨v2, a1, a2⟩ := hs.slots 2 _ rfl
    obtain ⟨v3, b1, b2⟩ := hs.slots 3 _ rfl
    obtain ⟨v4, c1, c2⟩ := hs.slots 4 _ rfl
    obtain ⟨v5, d1, d2⟩ := hs.slots 5 _ rfl
    have c2' : R G v4 (.int s.1) := c2
    have d2' : R G v5 (.int s.2) := d2
    cases c2'
    cases d2'
    have keepH : ∀ x o, c.H0 x = some o → H x = some o := fun x o z => hs.keep x o (by rw [hc]; simp) z
    refine ⟨v2, a1, _, c1, G, [v.1.d, .int s.1], hs.sub, .cons a2 (.cons (.int _) .nil), (v.1, s.1), rfl, ok'.1, fun B1 a la n1 Q1 H1 x1 x2 x3 => ?_⟩
    refine ⟨v3, b1, _, c1, _, d1, _, _, rfl, rfl, G, [v.2.d, .int (s.1 - s.2)], hs.sub.trans x1, .cons b2 (.cons (.int _) .nil), (v.2, s.1 - s.2), rfl, ok'.2, fun B2 b lb n2 Q2 H2 y1 y2 y3 => ⟨by show 2 ≤ sizeLine; decide, fun t ht => ?_⟩⟩
    have Pa : combP B1 a la a = some (.tup [.int B1.p, .ref la]) := if_pos rfl
    have Pla : combP B1 a la la = some (.lst (B1.ts.map V.int)) := by unfold combP; rw [if_neg (Ne.symm n1), if_pos rfl]
    have Pb : combP B2 b lb b = some (.tup [.int B2.p, .ref lb]) := if_pos rfl
    have Plb : combP B2 b lb lb = some (.lst (B2.ts.map V.int)) := by unfold combP; rw [if_neg (Ne.symm n2), if_pos rfl]
    have h1b := y3 _ _ Pb
    have h1lb := y3 _ _ Plb
    have ne : ∀ {x y : Addr} {o : HO}, H1 x = some o → H1 y = none → x ≠ y := fun p q z => by rw [z, q] at p; cases p
    have ne2 : ∀ {x : Addr} {o : HO}, H2 x = some o → t ≠ x := fun p z => by rw [z, p] at ht; cases ht
    have m : Mir (B2, B1) t a b la lb := ⟨n1, n2, ne (x2 _ _ Pla) h1lb, ne (x2 _ _ Pa) h1b, ne (x2 _ _ Pa) h1lb, Ne.symm (ne (x2 _ _ Pla) h1b), ne2 (y1 _ _ (x2 _ _ Pa)), ne2 (y2 _ _ Pb), ne2 (y1 _ _ (x2 _ _ Pla)), ne2 (y2 _ _ Plb)⟩
    have back : ∀ x, H1 x = none → c.H0 x = none := fun x z => by
      cases y : c.H0 x with
      | none => rfl
      | some o => rw [x1 _ _ (keepH _ _ y)] at z; cases z
    have back0 : ∀ x, H x = none → c.H0 x = none := fun x z => by
      cases y : c.H0 x with
      | none => rfl
      | some o => rw [keepH _ _ y] at z; cases z
    refine hk (mirP (B2, B1) t a b la lb) (.ref t) _ (h (B1, B2) t a b la lb m ⟨Q1.1, Q2.1, Q1.2, Q2.2⟩) (fun x o z => Ex.new ht _ _ (y1 _ _ (x1 _ _ (keepH _ _ z)))) (fun x o z => ?_) fun x o z => ?_
    · unfold mirP at z
      by_cases y : x = t
      · subst y; rw [if_pos rfl] at z; cases z; exact upd_same
      · rw [if_neg y] at z
        rw [upd_ne y]
        rcases orP_or z with z | z
        · exact y1 _ _ (x2 _ _ z)
        · exact y2 _ _ z
    · rcases m.all z with rfl | rfl | rfl | rfl | rfl
      · cases y : c.H0 x with
        | none => rfl
        | some o => rw [y1 _ _ (x1 _ _ (keepH _ _ y))] at ht; cases ht
      · exact back0 _ (x3 _ _ Pa)
      · exact back0 _ (x3 _ _ Pla)
      · exact back _ h1b
      · exact back _ h1lb

theorem ok_alike_state (T : Tx K mg) (D_check_begun : D_check_begun_ P w K mg base) (D_plain_comb : D_plain_comb_ P w K mg base) {f : Addr} {fd : FuncData} (F : Here K mg "alike_state" s_alike_state ["device", "state"] f fd) : D_alike_state_ P w K mg base := by
  refine F.df (fgP F.1 sc_alike_state (fun ds k h => ?_) fun cdv B fr s H E hg hr => ⟨_, ((pss_cons (ps_expr (pe_callD D_check_begun hg (hr.mono (by decide)) (by rfl) (pa_cons (pv 0) (pa_cons (pv 1) pa_nil))))
      (pss_cons (ps_asg (pv 0) (pg_tup (n := 2) rfl (pgs_cons (pg_name (i := 2) sc_alike_state.nd rfl (.inl rfl)) (pgs_cons (pg_name (i := 3) sc_alike_state.nd rfl (.inl rfl)) pgs_nil))))
      (pss_cons (ps_asg (pv 1) (pg_tup (n := 2) rfl (pgs_cons (pg_name (i := 4) sc_alike_state.nd rfl (.inl rfl)) (pgs_cons (pg_name (i := 5) sc_alike_state.nd rfl (.inl rfl)) pgs_nil))))
      (pss_cons (ps_asg (pe_callD D_plain_comb hg (hr.mono (by decide)) (by rfl) (pa_cons (pv 2) pa_nil)) (pg_tup (n := 2) rfl (pgs_cons (pg_name (i := 6) sc_alike_state.nd rfl (.inl rfl)) (pgs_cons (pg_name (i := 7) sc_alike_state.nd rfl (.inl rfl)) pgs_nil))))
      (pss_cons (ps_asg (pe_callD D_plain_comb hg (hr.mono (by decide)) (by rfl) (pa_cons (pv 3) pa_nil)) (pg_tup (n := 2) rfl (pgs_cons (pg_name (i := 8) sc_alike_state.nd rfl (.inl rfl)) (pgs_cons (pg_name (i := 7) sc_alike_state.nd rfl (.inl rfl)) pgs_nil))))
      (pss_cons (ps_set (i := 9) sc_alike_state.nd rfl (.inl rfl) (pe_op op_mod (pv 4) (pv 6)))
      (pss_one (ps_ret (pe_tup (pa_cons (pv 9) (pa_cons (pe_op op_mod (pe_op op_addU (pe_op op_sub (pv 9) (pv 4)) (pv 5)) (pv 8)) pa_nil)))))))))))), ?_⟩)
  · obtain ⟨a, rfl, _⟩ := h; rfl
  · intro c ds k hc h
    obtain ⟨⟨v, s⟩, rfl, ⟨ok, hh⟩, h⟩ := h
    have ok' : v.Ok := ok
    have h' : ∀ d, (∃ P Q : Int, LeastP v.1 P ∧ LeastP v.2 Q ∧ d = Sv.d (s.1 % P, (s.1 % P - s.1 + s.2) % Q)) → k d := h
    walk_at "go"
    refine we_det (v, s) ?_
    walk_at "go"
    refine ⟨⟨ok', hh⟩, ?_⟩
    walk_at "nz"
    refine ws_seq (ws_unpN rfl (we_var rfl ⟨_, _, rfl, ?_⟩))
    walk_at "nz"
    refine ws_seq (ws_unpN rfl (we_var rfl ⟨_, _, rfl, ?_⟩))
    walk_at "nz"
    refine ws_seq (ws_unpN rfl ?_)
    refine we_callW ?_ plainF_mono
    refine wa_cons (we_var rfl (wa_nil ⟨v.1, rfl, ok'.1, fun b1 a la n q => ⟨b1.d, combP_r n, ?_⟩⟩))
    obtain ⟨o1, s1, l1, m1, x1⟩ := q
    refine ⟨_, _, rfl, ?_⟩
    walk_at "nz"
    refine ws_seq (ws_unpN rfl ?_)
    refine we_callW ?_ plainF_mono
    refine wa_cons (we_var rfl (wa_nil ⟨v.2, rfl, ok'.2, fun b2 a la n q => ⟨b2.d, combP_r n, ?_⟩⟩))
    obtain ⟨o2, s2, l2, m2, x2⟩ := q
    refine ⟨_, _, rfl, ?_⟩
    have p1 := o1.p1
    have p2 := o2.p1
    walk_at "nz"
    refine ws_seq (ws_set (we_op (we_var rfl (we_var rfl ?_))))
    refine os_mod (show 0 < b1.p by omega) ?_
    walk_at "nz"
    refine ws_ret (we_tup (wa_cons (we_var rfl (wa_cons (we_op ?_)))))
    refine we_op (we_op (we_var rfl (we_var rfl (os_sub ?_))))
    refine we_var rfl (os_addI ?_)
    refine we_var rfl (os_mod (show 0 < b2.p by omega) ?_)
    refine wa_nil ⟨by show 2 ≤ sizeLine; decide, ?_⟩
    exact h' _ ⟨b1.p, b2.p, leastP_of o1 s1 l1 m1 x1, leastP_of o2 s2 l2 m2 x2, rfl⟩

theorem ok_are_alike (T : Tx K mg) (D_check_both : D_check_both_ P w K mg base) (D_shifted_device : D_shifted_device_ P w K mg base) {f : Addr} {fd : FuncData} (F : Here K mg "are_alike" s_are_alike ["device", "state", "second", "start"] f fd) : D_are_alike_ P w K mg base := by
  refine F.df (fgP F.1 sc_are_alike (fun ds k h => ?_) fun cdv B fr s H E hg hr => ⟨_, ((pss_cons (ps_expr (pe_callD D_check_both hg (hr.mono (by decide)) (by rfl) (pa_cons (pv 0) (pa_cons (pv 1) (pa_cons (pv 2) (pa_cons (pv 3) pa_nil))))))
      (pss_one (ps_ret (pe_cmpR (r := rEqU K) (op_eqU hr.units) (pe_callD D_shifted_device hg (hr.mono (by decide)) (by rfl) (pa_cons (pv 0) (pa_cons (pv 1) pa_nil))) (pe_callD D_shifted_device hg (hr.mono (by decide)) (by rfl) (pa_cons (pv 2) (pa_cons (pv 3) pa_nil))) (nomark _)))))), ?_⟩)
  · obtain ⟨a, rfl, _⟩ := h; rfl
  · intro c ds k hc h
    obtain ⟨⟨⟨v, s⟩, w', t⟩, rfl, ⟨hv, hw⟩, h⟩ := h
    walk_at "go"
    refine we_det ((v, s), w', t) ?_
    walk_at "go"
    refine ⟨⟨hv, hw⟩, ?_⟩
    walk_at "nz"
    refine ws_ret (we_op ?_)
    refine we_callW ?_ devF_mono
    refine wa_cons (we_var rfl (wa_cons (we_var rfl (wa_nil ⟨(v, s), rfl, hv.1, fun b t1 a1 e1 la1 lb1 m1 q1 => ⟨_, m1.r, ?_⟩⟩))))
    refine we_callW ?_ devF_mono
    refine wa_cons (we_var rfl (wa_cons (we_var rfl (wa_nil ⟨(w', t), rfl, hw.1, fun e t2 a2 e2 la2 lb2 m2 q2 => ⟨_, m2.r, ?_⟩⟩))))
    obtain ⟨p1, p2, c1, c2⟩ := q1
    obtain ⟨r1, r2, f1, f2⟩ := q2
    show OpS _ _ _ b.d e.d _ _
    refine os_eqUD (shaped_of (Dv.Ok.okD (v := b) ⟨p1.1, p2.1⟩ 17)) (shaped_of (Dv.Ok.okD (v := e) ⟨r1.1, r2.1⟩ 17)) ?_
    refine h _ ⟨_, rfl, (eqv_dev b e).trans ⟨fun z => ?_, fun ⟨z1, z2⟩ => ?_⟩⟩
    · subst z
      exact ⟨fun n => by rw [← c1, f1], fun n => by rw [← c2, f2]⟩
    · exact Prod.ext (p1.uniq r1 fun n => by rw [c1, f1]; exact z1 n) (p2.uniq r2 fun n => by rw [c2, f2]; exact z2 n)

theorem ok_plain_device (T : Tx K mg) (D_check_begun : D_check_begun_ P w K mg base) (D_shifted_device : D_shifted_device_ P w K mg base) {f : Addr} {fd : FuncData} (F : Here K mg "plain_device" s_plain_device ["device", "state"] f fd) : D_plain_device_ P w K mg base := by
  refine F.df (fgW F.1 sc_plain_device (fun ds k h => ?_) fun cdv B fr s H E hg hr => ⟨_, ((pss_cons (ps_expr (pe_callD D_check_begun hg (hr.mono (by decide)) (by rfl) (pa_cons (pv 0) (pa_cons (pv 1) pa_nil))))
      (pss_one (ps_ret (pe_callD D_shifted_device hg (hr.mono (by decide)) (by rfl) (pa_cons (pv 0) (pa_cons (pv 1) pa_nil))))))), ?_⟩)
  · obtain ⟨a, rfl, _⟩ := h; rfl
  · intro c ds k hc h D' G0 hk
    obtain ⟨⟨v, s⟩, rfl, ⟨ok, hh⟩, h⟩ := h
    walk_at "nz"
    refine wsk_seq ?_
    walk_at "go"
    refine we_det (v, s) ?_
    walk_at "go"
    refine ⟨⟨ok, hh⟩, ?_⟩
    walk_at "nz"
    refine wsk_retW hc ?_ devF_mono
    refine wa_cons (we_var rfl (wa_cons (we_var rfl (wa_nil ⟨(v, s), rfl, ok, fun b t a e la lb m q H' e1 e2 e3 => ?_⟩))))
    exact hk _ _ _ (h b t a e la lb m q) e1 e2 e3

theorem ok__law_right (T : Tx K mg) (D__law_plain : D__law_plain_ P w K mg base) (D__law_row : D__law_row_ P w K mg base) (D_alike_state : D_alike_state_ P w K mg base) (D_are_alike : D_are_alike_ P w K mg base) (D_plain_device : D_plain_device_ P w K mg base) {f : Addr} {fd : FuncData} (F : Here K mg "_law_right" s__law_right ["pair", "stand"] f fd) : D__law_right_ P w K mg base := by
  refine F.df (fgP F.1 sc__law_right (fun ds k h => ?_) fun cdv B fr s H E hg hr => ⟨_, ((pss_cons (ps_par (i := 2) (j := 3) rfl sc__law_right.nd rfl rfl (by decide) rfl rfl (pa_cons (pe_callB (r := rRepr K) (call_repr hg hr.units) (by rfl) T.n_repr (by decide +kernel) (pa_cons (pe_lst (pa_cons (pv 0) (pa_cons (pv 1) pa_nil))) pa_nil)) (pa_cons (pe_op op_sub (pe_ix (r := rIx K) ix_seq (pv 1) pe_int (fun _ _ => rfl)) (pe_ix (r := rIx K) ix_seq (pv 1) pe_int (fun _ _ => rfl))) pa_nil)) (by rfl))
      (pss_cons (ps_set (i := 4) sc__law_right.nd rfl (.inl rfl) (pe_tup (pa_cons (pe_callD D__law_plain hg (hr.mono (by decide)) (by rfl) (pa_cons (pe_ix (r := rIx K) ix_seq (pv 0) pe_int (fun _ _ => rfl)) (pa_cons (pe_ix (r := rIx K) ix_seq (pv 1) pe_int (fun _ _ => rfl)) pa_nil))) (pa_cons (pe_callD D__law_plain hg (hr.mono (by decide)) (by rfl) (pa_cons (pe_ix (r := rIx K) ix_seq (pv 0) pe_int (fun _ _ => rfl)) (pa_cons (pv 3) pa_nil))) pa_nil))))
      (pss_cons (ps_set (i := 5) sc__law_right.nd rfl (.inl rfl) (pe_callKP D_plain_device T.k_plain_device_kw_state_device hg (hr.mono (by decide)) (by rfl) (pk_cons (pv 1) (pk_cons (pv 0) pk_nil))))
      (pss_cons (ps_if (pt_cmpR (r := rNeU K) (op_neU hr.units) (pe_callB (r := rRepr K) (call_repr hg hr.units) (by rfl) T.n_repr (by decide +kernel) (pa_cons (pe_lst (pa_cons (pv 5) (pa_cons (pe_callD D_plain_device hg (hr.mono (by decide)) (by rfl) (pa_cons (pv 0) (pa_cons (pv 1) pa_nil))) pa_nil))) pa_nil)) (pe_callB (r := rRepr K) (call_repr hg hr.units) (by rfl) T.n_repr (by decide +kernel) (pa_cons (pe_lst (pa_cons (pv 4) (pa_cons (pv 4) pa_nil))) pa_nil)) (nomark _)) (pss_one (ps_ret pe_bl)) pss_nil)
      (pss_cons (ps_if (pt_not (pt_val (pe_callD D_are_alike hg (hr.mono (by decide)) (by rfl) (pa_cons (pv 0) (pa_cons (pv 1) (pa_cons (pv 5) (pa_cons (pe_tup (pa_cons pe_int (pa_cons pe_int pa_nil))) pa_nil))))))) (pss_one (ps_ret pe_bl)) pss_nil)
      (pss_cons (ps_expr (pe_bm PySem.F.plainAttrs_list PySem.F.slot_list_append PySem.F.type_list_append mt_append (pe_ix (r := rIx K) ix_seq (pe_ix (r := rIx K) ix_seq (pv 5) pe_int (fun _ _ => rfl)) pe_int (fun _ _ => rfl)) (pa_cons pe_non pa_nil)))
      (pss_cons (ps_expr (pe_bm PySem.F.plainAttrs_list PySem.F.slot_list_append PySem.F.type_list_append mt_append (pe_ix (r := rIx K) ix_seq (pe_ix (r := rIx K) ix_seq (pv 5) pe_int (fun _ _ => rfl)) pe_int (fun _ _ => rfl)) (pa_cons pe_non pa_nil)))
      (pss_cons (ps_if (pt_cmpR (r := rNeU K) (op_neU hr.units) (pe_callB (r := rRepr K) (call_repr hg hr.units) (by rfl) T.n_repr (by decide +kernel) (pa_cons (pe_callD D_plain_device hg (hr.mono (by decide)) (by rfl) (pa_cons (pv 0) (pa_cons (pv 1) pa_nil))) pa_nil)) (pe_callB (r := rRepr K) (call_repr hg hr.units) (by rfl) T.n_repr (by decide +kernel) (pa_cons (pv 4) pa_nil)) (nomark _)) (pss_one (ps_ret pe_bl)) pss_nil)
      (pss_cons (ps_set (i := 6) sc__law_right.nd rfl (.inr rfl) (pe_lst (pa_cons (pe_callD D__law_row hg (hr.mono (by decide)) (by rfl) (pa_cons (pe_ix (r := rIx K) ix_seq (pv 0) pe_int (fun _ _ => rfl)) (pa_cons (pe_ix (r := rIx K) ix_seq (pv 1) pe_int (fun _ _ => rfl)) pa_nil))) (pa_cons (pe_callD D__law_row hg (hr.mono (by decide)) (by rfl) (pa_cons (pe_ix (r := rIx K) ix_seq (pv 0) pe_int (fun _ _ => rfl)) (pa_cons (pv 3) pa_nil))) pa_nil))))
      (pss_cons (ps_set (i := 7) sc__law_right.nd rfl (.inr rfl) (pe_ix (r := rIx K) ix_seq (pe_lc (own := [("k", 9)]) rfl sc__law_right.nd (pi_range1 (by rfl) T.n_range (pa_cons (pe_ix (r := rIx K) ix_seq (pe_ix (r := rIx K) ix_seq (pv 0) pe_int (fun _ _ => rfl)) pe_int (fun _ _ => rfl)) pa_nil)) (blkOk_by (N := ["pair", "stand", "kept", "lift", "due", "told", "rows", "high", "arm", "k"]) (sc := defScope s__law_right) (by decide +kernel)) (fun _ _ _ _ _ => (pg_name (i := 9) sc__law_right.nd rfl (Or.inl rfl) (Or.inr rfl))) (fun _ _ _ _ _ => (pts_one (pt_cmpR (r := rEqU K) (op_eqU hr.units) (pe_callD D__law_row hg (hr.mono (by decide)) (by rfl) (pa_cons (pe_ix (r := rIx K) ix_seq (pv 0) pe_int (fun _ _ => rfl)) (pa_cons (pv 9) pa_nil))) (pe_ix (r := rIx K) ix_seq (pv 6) pe_int (fun _ _ => rfl)) (nomark _)))) (fun _ _ _ _ _ => (pv 9))) pe_int (fun _ _ => rfl)))
      (pss_cons (ps_set (i := 8) sc__law_right.nd rfl (.inl rfl) (pe_ix (r := rIx K) ix_seq (pe_lc (own := [("k", 9)]) rfl sc__law_right.nd (pi_range1 (by rfl) T.n_range (pa_cons (pe_ix (r := rIx K) ix_seq (pe_ix (r := rIx K) ix_seq (pv 0) pe_int (fun _ _ => rfl)) pe_int (fun _ _ => rfl)) pa_nil)) (blkOk_by (N := ["pair", "stand", "kept", "lift", "due", "told", "rows", "high", "arm", "k"]) (sc := defScope s__law_right) (by decide +kernel)) (fun _ _ _ _ _ => (pg_name (i := 9) sc__law_right.nd rfl (Or.inl rfl) (Or.inr rfl))) (fun _ _ _ _ _ => (pts_one (pt_cmpR (r := rEqU K) (op_eqU hr.units) (pe_callD D__law_row hg (hr.mono (by decide)) (by rfl) (pa_cons (pe_ix (r := rIx K) ix_seq (pv 0) pe_int (fun _ _ => rfl)) (pa_cons (pe_op op_sub (pv 7) (pv 9)) pa_nil))) (pe_ix (r := rIx K) ix_seq (pv 6) pe_int (fun _ _ => rfl)) (nomark _)))) (fun _ _ _ _ _ => (pv 9))) pe_int (fun _ _ => rfl)))
      (pss_cons (ps_set (i := 5) sc__law_right.nd rfl (.inl rfl) (pe_lst (pa_cons (pe_callKP D_alike_state T.k_alike_state_kw_state_device hg (hr.mono (by decide)) (by rfl) (pk_cons (pv 1) (pk_cons (pv 0) pk_nil))) (pa_cons (pe_callD D_alike_state hg (hr.mono (by decide)) (by rfl) (pa_cons (pv 0) (pa_cons (pv 1) pa_nil))) pa_nil))))
      (pss_cons (ps_if (pt_cmpR (r := rNeU K) (op_neU hr.units) (pe_callB (r := rRepr K) (call_repr hg hr.units) (by rfl) T.n_repr (by decide +kernel) (pa_cons (pv 5) pa_nil)) (pe_callB (r := rRepr K) (call_repr hg hr.units) (by rfl) T.n_repr (by decide +kernel) (pa_cons (pe_op op_mulU (pe_lst (pa_cons (pe_tup (pa_cons (pv 7) (pa_cons (pv 8) pa_nil))) pa_nil)) pe_int) pa_nil)) (nomark _)) (pss_one (ps_ret pe_bl)) pss_nil)
      (pss_cons (ps_if (pt_not (pt_val (pe_callD D_are_alike hg (hr.mono (by decide)) (by rfl) (pa_cons (pv 0) (pa_cons (pv 1) (pa_cons (pv 0) (pa_cons (pe_tup (pa_cons (pv 7) (pa_cons (pv 8) pa_nil))) pa_nil))))))) (pss_one (ps_ret pe_bl)) pss_nil)
      (pss_one (ps_ret (pe_cmpR (r := rEqU K) (op_eqU hr.units) (pe_callB (r := rRepr K) (call_repr hg hr.units) (by rfl) T.n_repr (by decide +kernel) (pa_cons (pe_lst (pa_cons (pv 0) (pa_cons (pv 1) pa_nil))) pa_nil)) (pv 2) (nomark _))))))))))))))))))), ?_⟩)
  · obtain ⟨a, rfl, _⟩ := h; rfl
  · intro c ds k hc h
    obtain ⟨⟨v, s⟩, rfl, ⟨ok, hh, sb1, sb2⟩, h⟩ := h
    have ok' : v.Ok := ok
    have hh' : held v s = true := hh
    have sb1' : s.1.natAbs ≤ 10 ^ 40 := sb1
    have sb2' : s.2.natAbs ≤ 10 ^ 40 := sb2
    have p1 := ok'.1.p1
    have p24 := ok'.1.p24
    have q1 := ok'.2.p1
    have q24 := ok'.2.p24
    have fin : k (.bool true) := h
    have oks : okD 4 s.d := Sv.okD (Nat.lt_of_le_of_lt sb1' (by decide +kernel)) (Nat.lt_of_le_of_lt sb2' (by decide +kernel)) 3
    have ok2 : okD 20 (.list [v.d, s.d]) := fun x hx => by
      simp only [List.mem_cons, List.not_mem_nil, or_false] at hx
      rcases hx with rfl | rfl
      · exact okD_up (ok'.okD 0) (by decide)
      · exact okD_up oks (by decide)
    have cn2 : cnt (.list [v.d, s.d]) ≤ 60000 := by
      show cnt v.d + (3 + 0) + 1 ≤ _
      have := ok'.cnt
      omega
    obtain ⟨P, hP⟩ := leastP_ex ok'.1
    obtain ⟨Q, hQ⟩ := leastP_ex ok'.2
    have hi := high_is ok'.1 hP s.1
    have ai := arm_is ok'.2 hQ (s.1 % P) (s.1 - s.2)
    have P1 := hP.1
    have Q1 := hQ.1
    have P2 := hP.2.1
    have Q2 := hQ.2.1
    have r0 := Int.emod_nonneg s.1 (show P ≠ 0 by omega)
    have r1 := Int.emod_lt_of_pos s.1 (show 0 < P by omega)
    have t0 := Int.emod_nonneg (s.1 % P - (s.1 - s.2)) (show Q ≠ 0 by omega)
    have t1 := Int.emod_lt_of_pos (s.1 % P - (s.1 - s.2)) (show 0 < Q by omega)
    have alk := alk_least hP hQ s
    obtain ⟨lift, hlift⟩ : ∃ z, s.1 - s.2 = z := ⟨_, rfl⟩
    rw [hlift] at ai t0 t1 alk
    obtain ⟨high, hhigh⟩ : ∃ z, s.1 % P = z := ⟨_, rfl⟩
    rw [hhigh] at hi ai r0 r1 t0 t1 alk
    obtain ⟨arm, harm⟩ : ∃ z, (high - lift) % Q = z := ⟨_, rfl⟩
    rw [harm] at ai t0 t1 alk
    have told : ∀ {P' Q' : Int} {d : D}, LeastP v.1 P' → LeastP v.2 Q' → d = Sv.d (s.1 % P', (s.1 % P' - s.1 + s.2) % Q') → d = Sv.d (high, arm) := fun {P' Q' d} h1 h2 e => by
      rw [e, hP.uniq h1 |>.symm, hQ.uniq h2 |>.symm, hhigh, show high - s.1 + s.2 = high - lift by omega, harm]
    walk_at "nz"
    refine ws_of_wsk fun G0 D' ft => ?_
    refine wsk_seq (ws_par ?_)
    refine wa_cons (we_cb (wa_cons (we_lst ?_)))
    walk_at "go"
    refine cb_repr ok2 cn2 ?_
    refine wa_cons (we_op (we_op (we_var rfl (we_int (os_t0 ?_)))))
    refine we_op (we_var rfl (we_int (os_t1 (os_sub ?_))))
    refine wa_nil ⟨_, _, rfl, ?_⟩
    rw [hlift]
    generalize hr1 : PyData.shown (.list [v.d, s.d]) = rep1
    walk_at "nz"
    refine wsk_seq (ws_set (we_tup (wa_cons (we_rel (v.1, s.1) ?_))))
    refine wa_cons (we_op (we_var rfl (we_int (os_t0 ?_))))
    refine wa_cons (we_op (we_var rfl (we_int (os_t0 ?_))))
    refine wa_nil ⟨rfl, ok'.1, fun d1 z1 => ?_⟩
    obtain ⟨b1, rfl, pb1, cb1⟩ := z1
    refine wa_cons (we_rel (v.2, lift) ?_)
    refine wa_cons (we_op (we_var rfl (we_int (os_t1 ?_))))
    refine wa_cons (we_var rfl (wa_nil ⟨rfl, ok'.2, fun d2 z2 => ?_⟩))
    obtain ⟨b2, rfl, pb2, cb2⟩ := z2
    have cb1 : ∀ n, caught b1 n = caught v.1 (n + s.1) := cb1
    have cb2 : ∀ n, caught b2 n = caught v.2 (n + lift) := cb2
    refine wa_nil ⟨by show 2 ≤ sizeLine; decide, ?_⟩
    have okb : Dv.Ok (b1, b2) := ⟨pb1.1, pb2.1⟩
    have okbd : okD 20 (Dv.d (b1, b2)) := okD_up (okb.okD 0) (by decide)
    have cnb := okb.cnt
    have l1b : b1.ts.length < sizeLine := Nat.lt_of_le_of_lt (show b1.ts.length ≤ 100 by have := pb1.1.len; omega) (by decide)
    have l2b : b2.ts.length < sizeLine := Nat.lt_of_le_of_lt (show b2.ts.length ≤ 100 by have := pb2.1.len; omega) (by decide)
    have cnb6 : cnt (Dv.d (b1, b2)) ≤ 60000 := Nat.le_trans cnb (by decide)
    have okbb : okD 20 (.list [Dv.d (b1, b2), Dv.d (b1, b2)]) := fun x hx => by
      simp only [List.mem_cons, List.not_mem_nil, or_false] at hx
      rcases hx with rfl | rfl
      · exact okD_up (okb.okD 0) (by decide)
      · exact okD_up (okb.okD 0) (by decide)
    have cnbb : cnt (.list [Dv.d (b1, b2), Dv.d (b1, b2)]) ≤ 60000 := by
      show cnt (Dv.d (b1, b2)) + (cnt (Dv.d (b1, b2)) + 0) + 1 ≤ _
      omega
    obtain ⟨rep3, hr3⟩ : ∃ r, PyData.shown (.list [Dv.d (b1, b2), Dv.d (b1, b2)]) = r := ⟨_, rfl⟩
    obtain ⟨rep4, hr4⟩ : ∃ r, PyData.shown (Dv.d (b1, b2)) = r := ⟨_, rfl⟩
    have same : ∀ {b : Dv}, PlD v s b → b = (b1, b2) := fun q => plain_dev_uniq q pb1 pb2 cb1 fun n => by rw [cb2, ← hlift]
    show WSK _ _ [some (.d v.d), some (.d s.d), some (.d (.str rep1)), some (.d (.int lift)), some (.d (Dv.d (b1, b2))), none, none, none, none, none] [] D' G0
    walk_at "nz"
    refine wsk_callW (wa_pick ?_) devF_mono
    walk_at "go"
    refine ⟨(v, s), rfl, ⟨ok', hh'⟩, fun b t a e la lb m q FF => ?_⟩
    have eb := same q
    subst eb
    have noP : True := trivial
    walk_at "nz"
    refine wsk_seq (ws_if ?_)
    refine wt_pin (i := 5) (Dv.d (b1, b2)) FF rfl m.r (no_of rfl) ?_
    walk_at "nz"
    refine wt_B (we_op (we_cb (wa_cons (we_lst (wa_cons (we_var rfl (wa_cons ?_)))))))
    refine we_callW ?_ devF_mono
    refine wa_cons (we_var rfl (wa_cons (we_var rfl (wa_nil ⟨(v, s), rfl, ⟨ok', hh'⟩, fun b' t' a' e' la' lb' m' q' => ⟨_, m'.r, ?_⟩⟩))))
    have eb' := same q'
    subst eb'
    refine wa_nil ⟨by show 2 ≤ sizeLine; decide, ?_⟩
    refine wa_nil (cb_repr okbb cnbb ?_)
    rw [hr3]
    refine we_cb (wa_cons (we_lst (wa_cons (we_var rfl (wa_cons (we_var rfl (wa_nil ⟨by show 2 ≤ sizeLine; decide, ?_⟩)))))))
    refine wa_nil (cb_repr okbb cnbb ?_)
    rw [hr3]
    refine os_neT ?_
    walk_at "nz"
    refine ⟨.inr hc, ?_⟩
    refine iteN (by simp) ?_
    refine ws_next ?_
    walk_at "nz"
    refine wsk_seq (ws_if ?_)
    refine wt_pin (i := 5) (Dv.d (b1, b2)) FF rfl m.r (no_of rfl) ?_
    walk_at "nz"
    have alkB : AlkS v s (b1, b2) (0, 0) := ⟨fun n => by show _ = caught b1 (n + 0); rw [cb1, Int.add_zero], fun n => by show _ = caught b2 (n + (0 - 0)); rw [cb2, Int.sub_zero, Int.add_zero, ← hlift]⟩
    refine wt_not (wt_T (we_rel ((v, s), ((b1, b2) : Dv), ((0, 0) : Sv)) ?_))
    refine wa_cons (we_var rfl (wa_cons (we_var rfl (wa_cons (we_var rfl (wa_cons (we_tup (wa_cons (we_int (wa_cons (we_int (wa_nil ⟨by show 2 ≤ sizeLine; decide, ?_⟩))))))))))))
    refine wa_nil ⟨rfl, ⟨⟨ok', hh'⟩, okb, by rw [← alk_held alkB]; exact hh'⟩, fun d3 z3 => ?_⟩
    obtain ⟨bb, rfl, ibb⟩ := z3
    have ebb : bb = true := ibb.mpr alkB
    subst ebb
    walk_at "nz"
    refine ⟨.inr hc, ?_⟩
    refine iteN rfl ?_
    refine ws_next ?_
    walk_at "nz"
    refine wsk_pinApp (i := 5) (k0 := 0) rfl FF m.at_t rfl m.at_a m.at_la (show (b1.ts.map V.int).length < sizeLine by rw [List.length_map]; exact l1b) fun F1 => ?_
    refine wsk_pinApp (i := 5) (k0 := 1) rfl F1 (by rw [upd_ne m.n9]; exact m.at_t) rfl (by rw [upd_ne m.n6]; exact m.at_b) (by rw [upd_ne (Ne.symm m.n3)]; exact m.at_lb) (show (b2.ts.map V.int).length < sizeLine by rw [List.length_map]; exact l2b) fun F2 => ?_
    refine wsk_of_ws ?_ (Fits.pinP F2 ft)
    refine ws_seq (ws_if (wt_B (we_op (we_cb (wa_cons (we_callW ?_ devF_mono))))))
    refine wa_cons (we_var rfl (wa_cons (we_var rfl (wa_nil ⟨(v, s), rfl, ⟨ok', hh'⟩, fun b' t' a' e' la' lb' m' q' => ⟨_, m'.r, ?_⟩⟩))))
    have eb' := same q'
    subst eb'
    refine wa_nil (cb_repr okbd cnb6 ?_)
    rw [hr4]
    refine we_cb (wa_cons (we_var rfl (wa_nil (cb_repr okbd cnb6 ?_))))
    rw [hr4]
    refine os_neT ?_
    walk_at "nz"
    refine iteN (by simp) ?_
    refine ws_next ?_
    walk_at "nz"
    refine ws_seq (ws_set (we_lst (wa_cons (we_det (v.1, s.1) ?_))))
    refine wa_cons (we_op (we_var rfl (we_int (os_t0 ?_))))
    refine wa_cons (we_op (we_var rfl (we_int (os_t0 ?_))))
    refine wa_nil ⟨rfl, ok'.1, ?_⟩
    refine wa_cons (we_det (v.2, lift) ?_)
    refine wa_cons (we_op (we_var rfl (we_int (os_t1 ?_))))
    refine wa_cons (we_var rfl (wa_nil ⟨rfl, ok'.2, ?_⟩))
    refine wa_nil ⟨by show 2 ≤ sizeLine; decide, ?_⟩
    walk_at "nz"
    refine ws_seq (ws_set (we_op ?_))
    refine we_lcR (fun i acc p' => p' = [] ∧ acc = (((List.range i).filter fun (k : Nat) => decide (catL v.1 (k : Int) = catL v.1 s.1)).map fun (k : Nat) => PyData.int (k : Int))) v.1.p.toNat (no_of rfl _) ?_ ?_ ?_
    · refine wa_cons (we_op (we_op (we_var rfl (we_int (os_t0 ?_)))))
      refine we_int (os_t0 ?_)
      exact wa_nil ⟨_, rfl, rfl, by omega, by omega, rfl, rfl⟩
    · rintro j acc p' hj ⟨rfl, rfl⟩ pin
      have len : (((List.range j).filter fun (k : Nat) => decide (catL v.1 (k : Int) = catL v.1 s.1)).map fun (k : Nat) => PyData.int (k : Int)).length < sizeLine := by
        rw [List.length_map]
        exact Nat.lt_of_le_of_lt (Nat.le_trans (List.length_filter_le _ _) (show _ ≤ 100 by rw [List.length_range]; omega)) (by decide)
      rw [List.range_succ, List.filter_append, List.map_append]
      walk_at "nz"
      refine wt_B (we_op (we_det (v.1, (j : Int)) ?_))
      refine wa_cons (we_op (we_var rfl (we_int (os_t0 ?_))))
      refine wa_cons (we_var rfl (wa_nil ⟨rfl, ok'.1, ?_⟩))
      refine we_op (we_var rfl (we_int (os_l0 ?_)))
      refine os_eqUD (shaped_of (okD_bools _ 19)) (shaped_of (okD_bools _ 19)) ?_
      rw [eqv_bools]
      walk_at "nz"
      refine ite2 (fun hb => ?_) (fun hb => ?_)
      · rw [List.filter_cons_of_pos (p := fun (k : Nat) => decide (catL v.1 (k : Int) = catL v.1 s.1)) hb]
        exact we_var rfl ⟨len, rfl, rfl⟩
      · rw [List.filter_cons_of_neg (p := fun (k : Nat) => decide (catL v.1 (k : Int) = catL v.1 s.1)) hb]
        exact ⟨rfl, (List.append_nil _).symm⟩
    rintro acc p' ⟨rfl, rfl⟩
    refine we_int (os_ix (e := .int high) ?_ ?_)
    · refine atI_nat (j := 0) ?_
      rw [List.getElem?_map, hi]
      show some (PyData.int ((high.toNat : Nat) : Int)) = _
      rw [Int.toNat_of_nonneg r0]
    walk_at "nz"
    refine ws_seq (ws_set (we_op ?_))
    refine we_lcR (fun i acc p' => p' = [] ∧ acc = (((List.range i).filter fun (k : Nat) => decide (catL v.2 (high - (k : Int)) = catL v.2 lift)).map fun (k : Nat) => PyData.int (k : Int))) v.2.p.toNat (no_of rfl _) ?_ ?_ ?_
    · refine wa_cons (we_op (we_op (we_var rfl (we_int (os_t1 ?_)))))
      refine we_int (os_t0 ?_)
      exact wa_nil ⟨_, rfl, rfl, by omega, by omega, rfl, rfl⟩
    · rintro j acc p' hj ⟨rfl, rfl⟩ pin
      have len : (((List.range j).filter fun (k : Nat) => decide (catL v.2 (high - (k : Int)) = catL v.2 lift)).map fun (k : Nat) => PyData.int (k : Int)).length < sizeLine := by
        rw [List.length_map]
        exact Nat.lt_of_le_of_lt (Nat.le_trans (List.length_filter_le _ _) (show _ ≤ 100 by rw [List.length_range]; omega)) (by decide)
      rw [List.range_succ, List.filter_append, List.map_append]
      walk_at "nz"
      refine wt_B (we_op (we_det (v.2, high - (j : Int)) ?_))
      refine wa_cons (we_op (we_var rfl (we_int (os_t1 ?_))))
      refine wa_cons (we_op (we_var rfl (we_var rfl (os_sub ?_))))
      refine wa_nil ⟨rfl, ok'.2, ?_⟩
      refine we_op (we_var rfl (we_int (os_l1 ?_)))
      refine os_eqUD (shaped_of (okD_bools _ 19)) (shaped_of (okD_bools _ 19)) ?_
      rw [eqv_bools]
      walk_at "nz"
      refine ite2 (fun hb => ?_) (fun hb => ?_)
      · rw [List.filter_cons_of_pos (p := fun (k : Nat) => decide (catL v.2 (high - (k : Int)) = catL v.2 lift)) hb]
        exact we_var rfl ⟨len, rfl, rfl⟩
      · rw [List.filter_cons_of_neg (p := fun (k : Nat) => decide (catL v.2 (high - (k : Int)) = catL v.2 lift)) hb]
        exact ⟨rfl, (List.append_nil _).symm⟩
    rintro acc p' ⟨rfl, rfl⟩
    refine we_int (os_ix (e := .int arm) ?_ ?_)
    · refine atI_nat (j := 0) ?_
      rw [List.getElem?_map, ai]
      show some (PyData.int ((arm.toNat : Nat) : Int)) = _
      rw [Int.toNat_of_nonneg t0]
    walk_at "nz"
    refine ws_seq (ws_set (we_lst (wa_cons (we_rel (v, s) (wa_pick ?_)))))
    walk_at "go"
    refine ⟨⟨ok', hh'⟩, fun d4 z4 => ?_⟩
    obtain ⟨P4, Q4, l4, g4, e4⟩ := z4
    have e4 := told l4 g4 e4
    subst e4
    refine wa_cons (we_rel (v, s) ?_)
    refine wa_cons (we_var rfl (wa_cons (we_var rfl (wa_nil ⟨rfl, ⟨ok', hh'⟩, fun d5 z5 => ?_⟩))))
    obtain ⟨P5, Q5, l5, g5, e5⟩ := z5
    have e5 := told l5 g5 e5
    subst e5
    refine wa_nil ⟨by show 2 ≤ sizeLine; decide, ?_⟩
    have okha : okD 20 (.list [Sv.d (high, arm), Sv.d (high, arm)]) := fun x hx => by
      have z : okD 19 (Sv.d (high, arm)) := Sv.okD (small24 (t := high) (by omega) (by omega)) (small24 (t := arm) (by omega) (by omega)) 18
      simp only [List.mem_cons, List.not_mem_nil, or_false] at hx
      rcases hx with rfl | rfl <;> exact z
    obtain ⟨rep5, hr5⟩ : ∃ r, PyData.shown (.list [Sv.d (high, arm), Sv.d (high, arm)]) = r := ⟨_, rfl⟩
    have cnha : cnt (.list [Sv.d (high, arm), Sv.d (high, arm)]) ≤ 60000 := by show 3 + (3 + 0) + 1 ≤ _; decide
    walk_at "nz"
    refine ws_seq (ws_if (wt_B (we_op (we_cb (wa_cons (we_var rfl (wa_nil (cb_repr okha cnha ?_))))))))
    rw [hr5]
    refine we_cb (wa_cons (we_op (we_lst (wa_cons (we_tup (wa_cons (we_var rfl (wa_cons (we_var rfl (wa_nil ⟨by show 2 ≤ sizeLine; decide, ?_⟩))))))))))
    refine wa_nil ⟨by show 1 ≤ sizeLine; decide, ?_⟩
    refine we_int (os_mulL (k := 2) (by decide) (by show 1 * 2 ≤ sizeLine; decide) ?_)
    refine wa_nil ?_
    show CbS _ _ _ [.list [Sv.d (high, arm), Sv.d (high, arm)]] _ _
    refine cb_repr okha cnha ?_
    rw [hr5]
    refine os_neT ?_
    walk_at "nz"
    refine iteN (by simp) ?_
    refine ws_next ?_
    walk_at "nz"
    refine ws_seq (ws_if (wt_not (wt_T (we_rel ((v, s), v, ((high, arm) : Sv)) ?_))))
    refine wa_cons (we_var rfl (wa_cons (we_var rfl (wa_cons (we_var rfl (wa_cons (we_tup (wa_cons (we_var rfl (wa_cons (we_var rfl (wa_nil ⟨by show 2 ≤ sizeLine; decide, ?_⟩))))))))))))
    refine wa_nil ⟨rfl, ⟨⟨ok', hh'⟩, ok', by rw [← alk_held alk]; exact hh'⟩, fun d6 z6 => ?_⟩
    obtain ⟨bb, rfl, ibb⟩ := z6
    have ebb : bb = true := ibb.mpr alk
    subst ebb
    walk_at "nz"
    refine iteN rfl ?_
    refine ws_next ?_
    walk_at "nz"
    refine ws_ret (we_op (we_cb (wa_cons (we_lst ?_))))
    walk_at "go"
    refine cb_repr ok2 cn2 ?_
    rw [hr1]
    walk_at "nz"
    refine we_var rfl ?_
    refine os_eqT ?_
    rw [decide_eq_true rfl]
    exact fin

theorem ok_law (T : Tx K mg) (D__law_jar : D__law_jar_ P w K mg base) (D__law_pair : D__law_pair_ P w K mg base) (D__law_pick : D__law_pick_ P w K mg base) (D__law_right : D__law_right_ P w K mg base) (D__law_stand : D__law_stand_ P w K mg base) (D_alike_state : D_alike_state_ P w K mg base) (D_plain_device : D_plain_device_ P w K mg base) {f : Addr} {fd : FuncData} (F : Here K mg "law" s_law ["script"] f fd) : FG P w K mg base (9 + 1) f fd ["script"] (spLaw K) := by
  refine fgLaw F.1 sc_law rfl fun cdv B fr s H E hg hr => ⟨_, ((pss_cons (ps_for PassesOwn.never rfl (pi_range1 (by rfl) T.n_range (pa_cons (pe_callB (call_max2 rfl) (by rfl) T.n_max (by decide +kernel) (pa_cons pe_int (pa_cons (pe_callB (call_min2 rfl) (by rfl) T.n_min (by decide +kernel) (pa_cons pe_int (pa_cons (pe_callB (r := rLenQ K) call_len_seq (by rfl) T.n_len (by decide +kernel) (pa_cons (pv 0) pa_nil)) pa_nil))) pa_nil))) pa_nil)) (pg_name (i := 1) sc_law.nd rfl (.inl rfl)) (pss_cons (ps_set (i := 2) sc_law.nd rfl (.inl rfl) (pe_callD D__law_jar hg (hr.mono (by decide)) (by rfl) (pa_cons (pv 0) (pa_cons (pv 1) pa_nil))))
      (pss_one (ps_for PassesOwn.never rfl (pi_range1 (by rfl) T.n_range (pa_cons pe_int pa_nil)) (pg_name (i := 3) sc_law.nd rfl (.inl rfl)) (pss_cons (ps_set (i := 4) sc_law.nd rfl (.inl rfl) (pe_callD D__law_pair hg (hr.mono (by decide)) (by rfl) (pa_cons (pv 2) (pa_cons (pe_ix (r := rIx K) ix_seq (pe_lst (pa_cons pe_int (pa_cons pe_int (pa_cons pe_int (pa_cons pe_int pa_nil))))) (pv 3) (fun _ _ => rfl)) pa_nil))))
      (pss_cons (ps_if (pt_cmpR op_gt (pv 3) pe_int (nomark _)) (pss_cons (ps_asg (pe_tup (pa_cons (pe_ix (r := rIx K) ix_seq (pv 4) (pe_op op_mod (pe_callTy call_int1 (by rfl) T.n_int (by decide +kernel) (pa_cons (pv 3) pa_nil)) pe_int) (fun _ _ => rfl)) (pa_cons (pe_lst pa_nil) (pa_cons (pe_ix (r := rIx K) ix_seq (pe_lst (pa_cons pe_int (pa_cons pe_int (pa_cons pe_int (pa_cons pe_int pa_nil))))) (pv 3) (fun _ _ => rfl)) pa_nil)))) (pg_tup (n := 3) rfl (pgs_cons (pg_name (i := 5) sc_law.nd rfl (.inr rfl)) (pgs_cons (pg_name (i := 6) sc_law.nd rfl (.inl rfl)) (pgs_cons (pg_name (i := 7) sc_law.nd rfl (.inl rfl)) pgs_nil)))))
      (pss_cons (ps_for PassesOwn.never rfl (pi_range1 (by rfl) T.n_range (pa_cons (pv 7) pa_nil)) (pg_name (i := 8) sc_law.nd rfl (.inr rfl)) (pss_one (ps_set (i := 6) sc_law.nd rfl (.inl rfl) (pe_op op_addU (pv 6) (pe_lc (own := [("tooth", 11)]) rfl sc_law.nd (pi_list (pe_ix (r := rIx K) ix_seq (pv 5) pe_int (fun _ _ => rfl))) (blkOk_by (N := ["script", "at", "jar", "lap", "pair", "one", "row", "many", "more", "told", "some", "tooth"]) (sc := defScope s_law) (by decide +kernel)) (fun _ _ _ _ _ => (pg_name (i := 11) sc_law.nd rfl (Or.inl rfl) (Or.inr rfl))) (fun _ _ _ _ _ => pts_nil) (fun _ _ _ _ _ => (pe_op op_addU (pe_op op_mulU (pv 8) (pe_ix (r := rIx K) ix_seq (pv 5) pe_int (fun _ _ => rfl))) (pv 11))))))))
      (pss_cons (ps_set (i := 5) sc_law.nd rfl (.inr rfl) (pe_tup (pa_cons (pe_op op_mulU (pv 7) (pe_ix (r := rIx K) ix_seq (pv 5) pe_int (fun _ _ => rfl))) (pa_cons (pv 6) pa_nil))))
      (pss_one (ps_set (i := 4) sc_law.nd rfl (.inl rfl) (pe_ifExp (pt_cmpR (r := rIn K false) op_in_seq (pv 3) (pe_tup (pa_cons pe_int (pa_cons pe_int pa_nil))) (by rfl)) (pe_tup (pa_cons (pe_ix (r := rIx K) ix_seq (pv 4) pe_int (fun _ _ => rfl)) (pa_cons (pv 5) pa_nil))) (pe_tup (pa_cons (pv 5) (pa_cons (pe_ix (r := rIx K) ix_seq (pv 4) pe_int (fun _ _ => rfl)) pa_nil))))))))) pss_nil)
      (pss_one (ps_if (pt_not (pt_val (pe_callD D__law_right hg (hr.mono (by decide)) (by rfl) (pa_cons (pv 4) (pa_cons (pe_callD D__law_stand hg (hr.mono (by decide)) (by rfl) (pa_cons (pv 2) (pa_cons (pv 4) (pa_cons (pe_ix (r := rIx K) ix_seq (pe_lst (pa_cons pe_int (pa_cons (pe_op op_powW pe_int pe_int) pa_nil))) (pe_callD D__law_pick hg (hr.mono (by decide)) (by rfl) (pa_cons (pv 2) (pa_cons pe_int pa_nil))) (fun _ _ => rfl)) pa_nil)))) pa_nil))))) (pss_one (ps_ret pe_bl)) pss_nil))))))))
      (pss_cons (ps_set (i := 5) sc_law.nd rfl (.inr rfl) (pe_tup (pa_cons (pe_tup (pa_cons pe_int (pa_cons (pe_lst (pa_cons pe_int (pa_cons pe_int pa_nil))) pa_nil))) (pa_cons (pe_tup (pa_cons pe_int (pa_cons (pe_lst (pa_cons pe_int pa_nil)) pa_nil))) pa_nil))))
      (pss_cons (ps_if (pt_cmpR (r := rNeU K) (op_neU hr.units) (pe_callD D_plain_device hg (hr.mono (by decide)) (by rfl) (pa_cons (pv 5) (pa_cons (pe_tup (pa_cons pe_int (pa_cons pe_int pa_nil))) pa_nil))) (pe_tup (pa_cons (pe_tup (pa_cons pe_int (pa_cons (pe_lst (pa_cons pe_int (pa_cons pe_int pa_nil))) pa_nil))) (pa_cons (pe_tup (pa_cons pe_int (pa_cons (pe_lst (pa_cons pe_int pa_nil)) pa_nil))) pa_nil))) (nomark _)) (pss_one (ps_ret pe_bl)) pss_nil)
      (pss_cons (ps_set (i := 9) sc_law.nd rfl (.inl rfl) (pe_callD D_plain_device hg (hr.mono (by decide)) (by rfl) (pa_cons (pe_tup (pa_cons (pe_tup (pa_cons pe_int (pa_cons (pe_lst (pa_cons pe_int pa_nil)) pa_nil))) (pa_cons (pe_tup (pa_cons pe_int (pa_cons (pe_lst (pa_cons pe_int pa_nil)) pa_nil))) pa_nil))) (pa_cons (pe_tup (pa_cons pe_int (pa_cons pe_int pa_nil))) pa_nil))))
      (pss_cons (ps_expr (pe_bm PySem.F.plainAttrs_list PySem.F.slot_list_append PySem.F.type_list_append mt_append (pe_ix (r := rIx K) ix_seq (pe_ix (r := rIx K) ix_seq (pv 9) pe_int (fun _ _ => rfl)) pe_int (fun _ _ => rfl)) (pa_cons pe_non pa_nil)))
      (pss_cons (ps_if (pt_cmpR (r := rNeU K) (op_neU hr.units) (pe_ix (r := rIx K) ix_seq (pv 9) pe_int (fun _ _ => rfl)) (pe_tup (pa_cons pe_int (pa_cons (pe_lst (pa_cons pe_int pa_nil)) pa_nil))) (nomark _)) (pss_one (ps_ret pe_bl)) pss_nil)
      (pss_cons (ps_setLc (i := 9) (own := [("some", 10)]) rfl sc_law.nd rfl rfl (sw_true rfl rfl rfl (by decide +kernel)) (pi_list (pe_lst (pa_cons (pe_tup (pa_cons pe_int (pa_cons pe_int pa_nil))) (pa_cons (pe_tup (pa_cons pe_int (pa_cons (pe_op op_powW pe_int pe_int) pa_nil))) (pa_cons (pe_tup (pa_cons (pe_un un_neg pe_int) (pa_cons pe_int pa_nil))) pa_nil))))) (blkOk_by (N := ["script", "at", "jar", "lap", "pair", "one", "row", "many", "more", "told", "some", "tooth"]) (sc := defScope s_law) (by decide +kernel)) (fun _ _ _ _ _ => (pg_name (i := 10) sc_law.nd rfl (Or.inl rfl) (Or.inr rfl))) (fun _ _ _ _ _ => pts_nil) (fun _ _ _ _ _ => (pe_callD D_alike_state hg (hr.mono (by decide)) (by rfl) (pa_cons (pv 5) (pa_cons (pv 10) pa_nil)))))
      (pss_one (ps_ret (pe_cmpR (r := rEqU K) (op_eqU hr.units) (pv 9) (pe_lst (pa_cons (pe_tup (pa_cons pe_int (pa_cons pe_int pa_nil))) (pa_cons (pe_tup (pa_cons pe_int (pa_cons pe_int pa_nil))) (pa_cons (pe_tup (pa_cons pe_int (pa_cons pe_int pa_nil))) pa_nil)))) (nomark _)))))))))))), ?_⟩
  intro c a ns hc hS hl
  have big : (200 : Int) < (2 : Int) ^ 200 := by decide +kernel
  have T38 : (10 : Int) ^ (38 : Int).toNat = 10 ^ 38 := by decide +kernel
  have e38 : (1 : Int) ≤ 10 ^ 38 ∧ (40 : Int) ≤ 10 ^ 38 := by decide +kernel
  walk_at "nz"
  refine ws_seq ?_
  refine ws_forR1 (fun i ds' pl' => ∃ b1 b2 b3 b4 b5 b6 b7 b8, ds' = [some (.v (.ref a)), b1, b2, b3, b4, b5, b6, b7, b8, none, none, none] ∧ pl' = []) (max 1 (min 5 ns.length)) ?_ ?_ ?_
  · walk_at "go"
    exact ⟨_, rfl, by omega, by omega, by omega, _, _, _, _, _, _, _, _, rfl, rfl⟩
  · rintro i ds' pl' hi ⟨b1, b2, b3, b4, b5, b6, b7, b8, rfl, rfl⟩
    walk_at "nz"
    refine ws_mkpool hc hS rfl _ i (we_var rfl ⟨rfl, rfl⟩) (fun k k' ⟨i0, i1, h⟩ g => ⟨i0, i1, fun pl q => g _ (h pl q)⟩) ⟨by omega, by omega, fun pl hP p => ?_⟩
    walk_at "nz"
    obtain ⟨i9, hi9⟩ : ∃ i9 : Int, (i : Int) = i9 := ⟨_, rfl⟩
    rw [hi9]
    refine ws_forR1 (fun j ds' pl' => ∃ b3 b4 b5 b6 b7 b8, ds' = [some (.v (.ref a)), some (.d (.int i9)), some (.v (.ref p)), b3, b4, b5, b6, b7, b8, none, none, none] ∧ Pk (1000 * j) pl') 4 ?_ ?_ ?_
    · walk_at "go"
      exact ⟨_, rfl, by decide, by decide, by decide, _, _, _, _, _, _, rfl, hP⟩
    · rintro j ds' pl' hj ⟨b3, b4, b5, b6, b7, b8, rfl, hPj⟩
      obtain ⟨most, hmost, m0, m1, mm⟩ : ∃ most : Int, ixD (.list [.int 24, .int 12, .int 6, .int 8]) (j : Int) = some (.int most) ∧ 1 ≤ most ∧ most ≤ 24 ∧ (∃ m : Nat, ixD (.list [.int 1, .int 2, .int 2, .int 3]) (j : Int) = some (.int (m : Int)) ∧ 1 ≤ m ∧ m ≤ 3 ∧ (m : Int) * most ≤ 24) := by
        have j4 : j = 0 ∨ j = 1 ∨ j = 2 ∨ j = 3 := by omega
        rcases j4 with rfl | rfl | rfl | rfl
        · exact ⟨24, atI_nat (j := 0) rfl, by decide, by decide, 1, atI_nat (j := 0) rfl, by decide, by decide, by decide⟩
        · exact ⟨12, atI_nat (j := 1) rfl, by decide, by decide, 2, atI_nat (j := 1) rfl, by decide, by decide, by decide⟩
        · exact ⟨6, atI_nat (j := 2) rfl, by decide, by decide, 2, atI_nat (j := 2) rfl, by decide, by decide, by decide⟩
        · exact ⟨8, atI_nat (j := 3) rfl, by decide, by decide, 3, atI_nat (j := 3) rfl, by decide, by decide, by decide⟩
      obtain ⟨m, hm, k1, k3, km⟩ := mm
      refine ws_forget 6 (ws_forget 5 (ws_forget 7 (ws_forget 8 (ws_forget 4 ?_))))
      obtain ⟨j9, hj9⟩ : ∃ j9 : Int, (j : Int) = j9 := ⟨_, rfl⟩
      rw [hj9] at hmost hm ⊢
      walk_at "nz"
      refine ws_seq (ws_set (we_poolE rfl rfl ?_))
      refine wa_cons (we_op (we_lst (wa_cons (we_int (wa_cons (we_int (wa_cons (we_int (wa_cons (we_int (wa_nil ⟨by show 4 ≤ sizeLine; decide, ?_⟩)))))))))))
      refine we_var rfl (os_ix hmost ?_)
      refine wa_nil ⟨most, rfl, ⟨m0, m1⟩, 1000 * j, hPj, by omega, fun d1 pl1 q1 hP1 => ?_⟩
      obtain ⟨v, rfl, ok, vp1, vp2⟩ := q1
      have ok' : v.Ok := ok
      have vp1 : v.1.p ≤ most := vp1
      have vp2 : v.2.p ≤ most := vp2
      have hP1' : Pk (1000 * j + 300) pl1 := hP1
      walk_at "nz"
      refine ws_seq ?_
      refine ws_mono (E' := { nx := fun ds' pl' => ∃ (w : Dv) (b5 b6 b7 b8 : Option W), ds' = [some (.v (.ref a)), some (.d (.int i9)), some (.v (.ref p)), some (.d (.int j9)), some (.d w.d), b5, b6, b7, b8, none, none, none] ∧ pl' = pl1 ∧ w.Ok, rt := fun _ _ => False, bk := fun _ _ => False, ct := fun _ _ => False }) ?_ ?_ (fun _ _ z => z.elim) (fun _ _ z => z.elim) (fun _ _ z => z.elim)
      · refine ws_if (wt_B (we_op (we_var rfl (we_int (os_gt ?_)))))
        walk_at "nz"
        refine ite2 (fun hb => ?_) (fun hb => ?_)
        · obtain ⟨cb, hcb, ocb, pcb⟩ : ∃ cb : Comb, ixD v.d (j9 % 2) = some cb.d ∧ cb.Ok ∧ cb.p ≤ most := by
            have : j9 % 2 = 0 ∨ j9 % 2 = 1 := by omega
            rcases this with e | e <;> rw [e]
            · exact ⟨v.1, rfl, ok'.1, vp1⟩
            · exact ⟨v.2, rfl, ok'.2, vp2⟩
          have p1 := ocb.p1
          have p24 := ocb.p24
          have mp : (m : Int) * cb.p ≤ 24 := Int.le_trans (Int.mul_le_mul_of_nonneg_left pcb (by omega)) km
          have okr := rpt_ok ocb k1 mp
          refine ws_seq (ws_unp3 rfl (we_tup (wa_cons (we_op (we_var rfl (we_op ?_))))))
          walk_at "go"
          refine os_mod (by decide) ?_
          refine os_ix hcb ?_
          refine wa_cons (we_lst (wa_nil ⟨by show 0 ≤ sizeLine; decide, ?_⟩))
          refine wa_cons (we_op (we_lst (wa_cons (we_int (wa_cons (we_int (wa_cons (we_int (wa_cons (we_int (wa_nil ⟨by show 4 ≤ sizeLine; decide, ?_⟩)))))))))))
          refine we_var rfl (os_ix hm ?_)
          refine wa_nil ⟨by show 3 ≤ sizeLine; decide, _, _, _, rfl, ?_⟩
          obtain ⟨m9, hm9⟩ : ∃ y : Int, (m : Int) = y := ⟨_, rfl⟩
          rw [hm9]
          walk_at "nz"
          refine ws_seq ?_
          refine ws_forR1 (fun i ds' pl' => ∃ b8 : Option W, ds' = [some (.v (.ref a)), some (.d (.int i9)), some (.v (.ref p)), some (.d (.int j9)), some (.d v.d), some (.d cb.d), some (.d (.list ((rptT cb i).map PyData.int))), some (.d (.int m9)), b8, none, none, none] ∧ pl' = pl1) m ?_ ?_ ?_
          · exact wa_cons (we_var rfl (wa_nil ⟨_, rfl, by omega, by omega, by omega, _, rfl, rfl⟩))
          · rintro q ds' p' hq ⟨b8, rfl, rfl⟩
            have ql := (rpt_in ocb q).2.2
            have cl := ocb.len
            have ql2 : (rptT cb q).length ≤ 72 := by rw [ql]; exact Nat.le_trans (Nat.mul_le_mul (show q ≤ 3 by omega) cl) (by decide)
            obtain ⟨q9, hq9⟩ : ∃ y : Int, (q : Int) = y := ⟨_, rfl⟩
            rw [hq9]
            walk_at "nz"
            refine ws_set (we_op (we_var rfl ?_))
            refine we_lcM cb.ts PyData.int (fun t => PyData.int (q9 * cb.p + t)) (Nat.lt_of_le_of_lt (show _ ≤ 100 by omega) (by decide)) (no_of rfl _) ?_ ?_
            · refine we_op (we_var rfl (we_int (os_t1 ⟨rfl, ?_⟩)))
              refine os_addL (Nat.le_trans (show _ ≤ 1000 by rw [List.length_map, List.length_map]; omega) (by decide)) ?_
              refine ⟨some (.d (.int q9)), ?_, rfl⟩
              rw [show (rptT cb q).map PyData.int ++ cb.ts.map (fun t => PyData.int (q9 * cb.p + t)) = (rptT cb (q + 1)).map PyData.int by
                show _ = (rptT cb q ++ cb.ts.map fun t => (q : Int) * cb.p + t).map PyData.int
                rw [List.map_append, List.map_map, hq9]
                rfl]
              rfl
            · intro p' t ht pin
              refine we_op (we_op (we_var rfl (we_op (we_var rfl (we_int (os_t0 ?_))))))
              refine os_mulI (mulw 20 20 (by omega) (by omega) (by omega) (by omega) (by decide) (by decide) (by decide)) ?_
              refine we_var rfl (os_addI ?_)
              exact ⟨rfl, rfl⟩
          rintro ds' p' ⟨b8, rfl, rfl⟩
          refine ws_forget 8 ?_
          walk_at "nz"
          refine ws_seq (ws_set (we_tup (wa_cons (we_op (we_var rfl (we_op (we_var rfl (we_int (os_t0 ?_)))))))))
          refine os_mulI (mulw 20 20 (by omega) (by omega) (by omega) (by omega) (by decide) (by decide) (by decide)) ?_
          refine wa_cons (we_var rfl (wa_nil ⟨by show 2 ≤ sizeLine; decide, ?_⟩))
          have ecb : PyData.tuple [PyData.int (m9 * cb.p), PyData.list ((rptT cb m).map PyData.int)] = (Comb.mk ((m : Int) * cb.p) (rptT cb m)).d := by rw [hm9]
          rw [ecb]
          obtain ⟨e, he⟩ : ∃ e : Comb, Comb.mk ((m : Int) * cb.p) (rptT cb m) = e := ⟨_, rfl⟩
          rw [he] at okr ⊢
          walk_at "nz"
          refine ws_set (we_if (wt_B (we_op (we_var rfl (we_tup (wa_cons (we_int (wa_cons (we_int (wa_nil ⟨by show 2 ≤ sizeLine; decide, ?_⟩)))))))))) 
          refine os_inT (ns := [1, 3]) ?_
          walk_at "nz"
          refine ite2 (fun hb => ?_) (fun hb => ?_)
          · refine we_tup (wa_cons (we_op (we_var rfl (we_int (os_t0 ?_)))))
            refine wa_cons (we_var rfl (wa_nil ⟨by show 2 ≤ sizeLine; decide, (v.1, e), _, _, _, _, rfl, rfl, ok'.1, okr⟩))
          · refine we_tup (wa_cons (we_var rfl ?_))
            refine wa_cons (we_op (we_var rfl (we_int (os_t1 ?_))))
            refine wa_nil ⟨by show 2 ≤ sizeLine; decide, (e, v.2), _, _, _, _, rfl, rfl, okr, ok'.2⟩
        · refine ws_next ?_
          exact ⟨v, _, _, _, _, rfl, rfl, ok'⟩
      · rintro ds' p' ⟨w, b5, b6, b7, b8, rfl, rfl, ow⟩
        walk_at "nz"
        refine ws_if (wt_not (wt_T ?_))
        refine we_detE ?_
        refine wa_cons (we_var rfl (wa_cons (we_poolE rfl rfl ?_)))
        refine wa_cons (we_var rfl (wa_cons (we_op (we_lst (wa_cons (we_int (wa_cons (we_op (we_int (we_int ?_))))))))))
        refine os_pow (poww (by decide) (by decide) (by decide +kernel) (by decide +kernel)) ?_
        rw [T38]
        refine wa_nil ⟨by show 2 ≤ sizeLine; decide, ?_⟩
        refine we_draw 2 (1000 * j + 300) rfl rfl ?_
        walk_at "go"
        refine ⟨hP1', by omega, fun v2 pl2 v20 v21 hP2 => ?_⟩
        refine os_pick (fun x => ∃ z : Int, x = .int z ∧ 1 ≤ z ∧ z ≤ 10 ^ 38) v20 v21 ?_ ?_
        · intro x hx
          simp only [List.mem_cons, List.not_mem_nil, or_false] at hx
          rcases hx with rfl | rfl
          · exact ⟨40, rfl, by decide, e38.2⟩
          · exact ⟨_, rfl, e38.1, Int.le_refl _⟩
        rintro _ ⟨far, rfl, f0, f1⟩
        refine wa_nil ⟨(w, far), rfl, ⟨ow, f0, f1⟩, 1000 * j + 301, hP2, by omega, fun d3 pl3 q3 hP3 => ?_⟩
        obtain ⟨s, rfl, sh, sb1, sb2⟩ := q3
        have hP3' : Pk (1000 * j + 304) pl3 := hP3
        refine wa_nil ⟨(w, s), rfl, ⟨ow, sh, sb1, sb2⟩, ?_⟩
        walk_at "nz"
        refine iteN rfl ?_
        refine ws_next ?_
        exact ⟨_, _, _, _, _, _, rfl, hP3'.up (by omega)⟩
    · rintro ds' pl' ⟨b3, b4, b5, b6, b7, b8, rfl, hP4⟩
      exact ⟨_, _, _, _, _, _, _, _, rfl, rfl⟩
  rintro ds' pl' ⟨b1, b2, b3, b4, b5, b6, b7, b8, rfl, rfl⟩
  refine ws_forget 1 (ws_forget 2 (ws_forget 3 (ws_forget 4 (ws_forget 5 (ws_forget 6 (ws_forget 7 (ws_forget 8 ?_)))))))
  have okAB : Dv.Ok (tenA, tenB) := ⟨okA, okB⟩
  have okFF : Dv.Ok (five, five) := ⟨okF, okF⟩
  walk_at "nz"
  refine ws_seq (ws_set ?_)
  repeat (first | walk_at "pd" | with_reducible refine we_lst ?_)
  refine we_callW ?_ devF_mono
  refine wa_cons (we_var rfl (wa_cons (we_tup (wa_cons (we_int (wa_cons (we_int (wa_nil ⟨by show 2 ≤ sizeLine; decide, ?_⟩))))))))
  refine wa_nil ⟨((tenA, tenB), (3, 0)), rfl, ⟨okAB, by decide +kernel⟩, fun b t1 a1 e1 la1 lb1 mm1 q1 => ⟨_, mm1.r, ?_⟩⟩
  have eb := dev_1 q1
  subst eb
  repeat (first | walk_at "pd" | with_reducible refine we_lst ?_)
  refine os_neS (x := Dv.d (tenC, tenD)) (okD_up ((show Dv.Ok (tenC, tenD) from ⟨okC, okD'⟩).okD 0) (by decide)) ?_
  walk_at "nz"
  refine iteN rfl ?_
  refine ws_next ?_
  walk_at "nz"
  refine ws_of_wsk fun G0 D' ft => ?_
  refine wsk_callW ?_ devF_mono
  repeat (first | walk_at "pd" | with_reducible refine we_lst ?_)
  refine ⟨((five, five), (0, 0)), rfl, ⟨okFF, by decide +kernel⟩, fun b t ta tb la lb mi q FF => ?_⟩
  have eb := dev_2 q
  subst eb
  walk_at "nz"
  refine wsk_pinApp (i := 9) (k0 := 0) rfl FF mi.at_t rfl mi.at_a mi.at_la (by decide) fun F1 => ?_
  refine wsk_of_ws ?_ (Fits.pinP F1 ft)
  refine ws_seq (ws_if ?_)
  refine wt_pin (i := 9) (.tuple [.tuple [.int 5, .list [.int 0, .none]], Comb.d five]) F1 rfl ?_ (no_of rfl) ?_
  · have n7 : t ≠ la := mi.n9
    refine .tup (by rw [upd_ne n7]; exact mi.at_t) (.cons (.tup (by rw [upd_ne mi.n1]; exact mi.at_a) (.cons (.int _) (.cons (.lst upd_same (.cons (.int _) (.cons .non .nil))) .nil))) (.cons (.tup (by rw [upd_ne mi.n6]; exact mi.at_b) (.cons (.int _) (.cons (.lst (by rw [upd_ne (Ne.symm mi.n3)]; exact mi.at_lb) (.cons (.int _) .nil)) .nil))) .nil))
  walk_at "nz"
  repeat (first | walk_at "pd" | with_reducible refine we_lst ?_)
  refine os_neS (x := Comb.d five) (okD_up (okF.okD 0) (by decide)) ?_
  refine ⟨.inr hc, ?_⟩
  refine iteN rfl ?_
  refine ws_next ?_
  walk_at "nz"
  have ls : ∀ {P Q : Int} {d : D} (s : Sv), LeastP tenA P → LeastP tenB Q → d = Sv.d (s.1 % P, (s.1 % P - s.1 + s.2) % Q) → d = Sv.d (s.1 % 10, (s.1 % 10 - s.1 + s.2) % 10) := fun {P Q d} s h1 h2 e => by
    rw [e, h1.uniq plA.least, h2.uniq plB.least]
  refine ws_seq (ws_set ?_)
  refine we_lcL (fun i acc p' => p' = [] ∧ acc = ([Sv.d (0, 0), Sv.d (3, 0), Sv.d (0, 0)]).take i) [Sv.d (0, 0), Sv.d (13, 10 ^ 30), Sv.d (-10, 0)] (no_of rfl _) ?_ ?_ ?_
  · repeat (first | walk_at "pd" | with_reducible refine we_lst ?_)
    refine os_pow (poww (by decide) (by decide) (by decide +kernel) (by decide +kernel)) ?_
    repeat (first | walk_at "pd" | with_reducible refine we_lst ?_)
    first | exact ⟨rfl, rfl, rfl⟩ | exact ⟨rfl, rfl⟩ | rfl | trivial
  · rintro i z acc p' hz ⟨rfl, rfl⟩ pin
    walk_at "nz"
    refine wt_yes ?_
    walk_at "nz"
    refine iteV rfl ?_
    refine we_relE ?_
    refine wa_cons (we_var rfl (wa_cons (we_var rfl ?_)))
    match i, hz with
    | 0, hz =>
      cases hz
      refine wa_nil ⟨((tenA, tenB), (0, 0)), rfl, ⟨okAB, by decide +kernel⟩, fun d4 z4 => ?_⟩
      obtain ⟨P4, Q4, l4, g4, e4⟩ := z4
      have e4 := ls (0, 0) l4 g4 e4
      subst e4
      exact ⟨by show 0 < sizeLine; decide, rfl, rfl⟩
    | 1, hz =>
      cases hz
      refine wa_nil ⟨((tenA, tenB), (13, 10 ^ 30)), rfl, ⟨okAB, by decide +kernel⟩, fun d4 z4 => ?_⟩
      obtain ⟨P4, Q4, l4, g4, e4⟩ := z4
      have e4 := ls (13, 10 ^ 30) l4 g4 e4
      rw [show (((13, 10 ^ 30) : Sv).1 % 10, (((13, 10 ^ 30) : Sv).1 % 10 - ((13, 10 ^ 30) : Sv).1 + ((13, 10 ^ 30) : Sv).2) % 10) = ((3, 0) : Sv) by decide +kernel] at e4
      subst e4
      exact ⟨by show 1 < sizeLine; decide, rfl, rfl⟩
    | 2, hz =>
      cases hz
      refine wa_nil ⟨((tenA, tenB), (-10, 0)), rfl, ⟨okAB, by decide +kernel⟩, fun d4 z4 => ?_⟩
      obtain ⟨P4, Q4, l4, g4, e4⟩ := z4
      have e4 := ls (-10, 0) l4 g4 e4
      rw [show (((-10, 0) : Sv).1 % 10, (((-10, 0) : Sv).1 % 10 - ((-10, 0) : Sv).1 + ((-10, 0) : Sv).2) % 10) = ((0, 0) : Sv) by decide +kernel] at e4
      subst e4
      exact ⟨by show 2 < sizeLine; decide, rfl, rfl⟩
    | i + 3, hz => cases hz
  rintro acc p' ⟨rfl, rfl⟩
  walk_at "nz"
  refine ws_ret (we_op (we_var rfl ?_))
  repeat (first | walk_at "pd" | with_reducible refine we_lst ?_)
  refine os_eqS (x := .list [Sv.d (0, 0), Sv.d (3, 0), Sv.d (0, 0)]) (fun x hx => ?_) ?_
  · simp only [List.mem_cons, List.not_mem_nil, or_false] at hx
    rcases hx with rfl | rfl | rfl
    · exact Sv.okD (by decide +kernel) (by decide +kernel) 18
    · exact Sv.okD (by decide +kernel) (by decide +kernel) 18
    · exact Sv.okD (by decide +kernel) (by decide +kernel) 18
  · exact rfl

end
/-! what the top has written -/
theorem here_mk {K : PySem.W.Frag} {h : Heap} {mg : Str → Option Value} {name : Str} {st : Stmt} {ps : List Str} {f : Addr} {oc : Value} {od an : Option Addr} {osl : Array (Option Value)} {kV doc pm cdv ct : Value} (X : K.In h) (G : h.Ns mainGlobals mg)
    (a : PySem.W.nsIn K mainGlobals name = some (some (.ref f))) (l : K.lookup f = some ⟨oc, od, .func (PySem.W.fnOf name name (defArgs st) (defBody st) (defScope st) .none kV doc pm an cdv ct), osl⟩) (c : PySem.W.codeIn K cdv name = true) (k : PySem.W.keepIn K (.ref f) = true)
    (b : ∀ (F : Fun K name name st f (PySem.W.fnOf name name (defArgs st) (defBody st) (defScope st) .none kV doc pm an cdv ct)), Binds K (PySem.W.fnOf name name (defArgs st) (defBody st) (defScope st) .none kV doc pm an cdv ct) ps []) : Here K mg name st ps f (PySem.W.fnOf name name (defArgs st) (defBody st) (defScope st) .none kV doc pm an cdv ct) :=
  ⟨fun_mk l c k, PySem.W.mg_of X G a, b (fun_mk l c k)⟩
theorem kw_mk {K : PySem.W.Frag} {h : Heap} {mg : Str → Option Value} {name : Str} {st : Stmt} {ps ks : List Str} {is : List Nat} {f : Addr} {oc : Value} {od an : Option Addr} {osl : Array (Option Value)} {kV doc pm cdv ct : Value} (X : K.In h) (G : h.Ns mainGlobals mg)
    (a : PySem.W.nsIn K mainGlobals name = some (some (.ref f))) (l : K.lookup f = some ⟨oc, od, .func (PySem.W.fnOf name name (defArgs st) (defBody st) (defScope st) .none kV doc pm an cdv ct), osl⟩)
    (b : ∀ (kV doc pm cdv ct : Value) (an : Option Addr) (ws : List Value), (pick is ws).length = ps.length → bindArgs (PySem.W.fnOf name name (defArgs st) (defBody st) (defScope st) .none kV doc pm an cdv ct) ⟨[], ks.zip ws⟩ = pure (ps.zip (pick is ws))) : KwOk K mg name ps ks is :=
  ⟨f, _, PySem.W.mg_of X G a, ⟨oc, od, osl, l⟩, fun s ws hl => .of_eq (b kV doc pm cdv ct an ws hl)⟩
/-- one def stands at the top -/
def At (K : PySem.W.Frag) (name : Str) (st : Stmt) : Prop := ∃ (f : Addr) (oc : Value) (od an : Option Addr) (osl : Array (Option Value)) (kV doc pm cdv ct : Value), PySem.W.nsIn K mainGlobals name = some (some (.ref f)) ∧ K.lookup f = some ⟨oc, od, .func (PySem.W.fnOf name name (defArgs st) (defBody st) (defScope st) .none kV doc pm an cdv ct), osl⟩ ∧ PySem.W.codeIn K cdv name = true ∧ PySem.W.keepIn K (.ref f) = true
theorem kwb_alike_state_state_device (kV doc pm cdv ct : Value) (an : Option Addr) : ∀ (ws : List Value), (pick [1, 0] ws).length = 2 → bindArgs (PySem.W.fnOf "alike_state" "alike_state" (defArgs s_alike_state) (defBody s_alike_state) (defScope s_alike_state) .none kV doc pm an cdv ct) ⟨[], (["state", "device"] : List Str).zip ws⟩ = pure ((["device", "state"] : List Str).zip (pick [1, 0] ws))
  | [], hl => absurd (show (0 : Nat) = 2 from hl) (by decide)
  | [_], hl => absurd (show (1 : Nat) = 2 from hl) (by decide)
  | w0 :: w1 :: r, _ => rfl
theorem kwb_plain_device_state_device (kV doc pm cdv ct : Value) (an : Option Addr) : ∀ (ws : List Value), (pick [1, 0] ws).length = 2 → bindArgs (PySem.W.fnOf "plain_device" "plain_device" (defArgs s_plain_device) (defBody s_plain_device) (defScope s_plain_device) .none kV doc pm an cdv ct) ⟨[], (["state", "device"] : List Str).zip ws⟩ = pure ((["device", "state"] : List Str).zip (pick [1, 0] ws))
  | [], hl => absurd (show (0 : Nat) = 2 from hl) (by decide)
  | [_], hl => absurd (show (1 : Nat) = 2 from hl) (by decide)
  | w0 :: w1 :: r, _ => rfl
theorem all_mk {l : PySem.W.OpenLaw} {w : World} {K : PySem.W.Frag} {h : Heap} {mg : Str → Option Value} {fa : Addr} (X : K.In h) (G : h.Ns mainGlobals mg) (hfa : mg "law" = some (.ref fa))
    {f_is_whole f_is_pair f_is_whole_pair f_catches f_copied_comb f_is_pitch f_are_teeth f_check_comb f_check_device f_is_comb f_plain_comb f_teeth_under f_repeated_teeth f_is_held f_fits_device f_check_state f_check_begun f_check_both f_shifted_comb f_shifted_device f_are_alike f_plain_device f_alike_state f__law_jar f__law_pick f__law_comb f__law_pair f__law_under f__law_stand f__law_row f__law_plain f__law_right f_law : Addr} {od_is_whole an_is_whole od_is_pair an_is_pair od_is_whole_pair an_is_whole_pair od_catches an_catches od_copied_comb an_copied_comb od_is_pitch an_is_pitch od_are_teeth an_are_teeth od_check_comb an_check_comb od_check_device an_check_device od_is_comb an_is_comb od_plain_comb an_plain_comb od_teeth_under an_teeth_under od_repeated_teeth an_repeated_teeth od_is_held an_is_held od_fits_device an_fits_device od_check_state an_check_state od_check_begun an_check_begun od_check_both an_check_both od_shifted_comb an_shifted_comb od_shifted_device an_shifted_device od_are_alike an_are_alike od_plain_device an_plain_device od_alike_state an_alike_state od__law_jar an__law_jar od__law_pick an__law_pick od__law_comb an__law_comb od__law_pair an__law_pair od__law_under an__law_under od__law_stand an__law_stand od__law_row an__law_row od__law_plain an__law_plain od__law_right an__law_right od_law an_law : Option Addr} {sl_is_whole sl_is_pair sl_is_whole_pair sl_catches sl_copied_comb sl_is_pitch sl_are_teeth sl_check_comb sl_check_device sl_is_comb sl_plain_comb sl_teeth_under sl_repeated_teeth sl_is_held sl_fits_device sl_check_state sl_check_begun sl_check_both sl_shifted_comb sl_shifted_device sl_are_alike sl_plain_device sl_alike_state sl__law_jar sl__law_pick sl__law_comb sl__law_pair sl__law_under sl__law_stand sl__law_row sl__law_plain sl__law_right sl_law : Array (Option Value)} {oc_is_whole kV_is_whole dc_is_whole pm_is_whole cd_is_whole ct_is_whole oc_is_pair kV_is_pair dc_is_pair pm_is_pair cd_is_pair ct_is_pair oc_is_whole_pair kV_is_whole_pair dc_is_whole_pair pm_is_whole_pair cd_is_whole_pair ct_is_whole_pair oc_catches kV_catches dc_catches pm_catches cd_catches ct_catches oc_copied_comb kV_copied_comb dc_copied_comb pm_copied_comb cd_copied_comb ct_copied_comb oc_is_pitch kV_is_pitch dc_is_pitch pm_is_pitch cd_is_pitch ct_is_pitch oc_are_teeth kV_are_teeth dc_are_teeth pm_are_teeth cd_are_teeth ct_are_teeth oc_check_comb kV_check_comb dc_check_comb pm_check_comb cd_check_comb ct_check_comb oc_check_device kV_check_device dc_check_device pm_check_device cd_check_device ct_check_device oc_is_comb kV_is_comb dc_is_comb pm_is_comb cd_is_comb ct_is_comb oc_plain_comb kV_plain_comb dc_plain_comb pm_plain_comb cd_plain_comb ct_plain_comb oc_teeth_under kV_teeth_under dc_teeth_under pm_teeth_under cd_teeth_under ct_teeth_under oc_repeated_teeth kV_repeated_teeth dc_repeated_teeth pm_repeated_teeth cd_repeated_teeth ct_repeated_teeth oc_is_held kV_is_held dc_is_held pm_is_held cd_is_held ct_is_held oc_fits_device kV_fits_device dc_fits_device pm_fits_device cd_fits_device ct_fits_device oc_check_state kV_check_state dc_check_state pm_check_state cd_check_state ct_check_state oc_check_begun kV_check_begun dc_check_begun pm_check_begun cd_check_begun ct_check_begun oc_check_both kV_check_both dc_check_both pm_check_both cd_check_both ct_check_both oc_shifted_comb kV_shifted_comb dc_shifted_comb pm_shifted_comb cd_shifted_comb ct_shifted_comb oc_shifted_device kV_shifted_device dc_shifted_device pm_shifted_device cd_shifted_device ct_shifted_device oc_are_alike kV_are_alike dc_are_alike pm_are_alike cd_are_alike ct_are_alike oc_plain_device kV_plain_device dc_plain_device pm_plain_device cd_plain_device ct_plain_device oc_alike_state kV_alike_state dc_alike_state pm_alike_state cd_alike_state ct_alike_state oc__law_jar kV__law_jar dc__law_jar pm__law_jar cd__law_jar ct__law_jar oc__law_pick kV__law_pick dc__law_pick pm__law_pick cd__law_pick ct__law_pick oc__law_comb kV__law_comb dc__law_comb pm__law_comb cd__law_comb ct__law_comb oc__law_pair kV__law_pair dc__law_pair pm__law_pair cd__law_pair ct__law_pair oc__law_under kV__law_under dc__law_under pm__law_under cd__law_under ct__law_under oc__law_stand kV__law_stand dc__law_stand pm__law_stand cd__law_stand ct__law_stand oc__law_row kV__law_row dc__law_row pm__law_row cd__law_row ct__law_row oc__law_plain kV__law_plain dc__law_plain pm__law_plain cd__law_plain ct__law_plain oc__law_right kV__law_right dc__law_right pm__law_right cd__law_right ct__law_right oc_law kV_law dc_law pm_law cd_law ct_law : Value}
    (a_is_whole : PySem.W.nsIn K mainGlobals "is_whole" = some (some (.ref f_is_whole))) (l_is_whole : K.lookup f_is_whole = some ⟨oc_is_whole, od_is_whole, .func (PySem.W.fnOf "is_whole" "is_whole" (defArgs s_is_whole) (defBody s_is_whole) (defScope s_is_whole) .none kV_is_whole dc_is_whole pm_is_whole an_is_whole cd_is_whole ct_is_whole), sl_is_whole⟩) (c_is_whole : PySem.W.codeIn K cd_is_whole "is_whole" = true) (k_is_whole : PySem.W.keepIn K (.ref f_is_whole) = true)
    (a_is_pair : PySem.W.nsIn K mainGlobals "is_pair" = some (some (.ref f_is_pair))) (l_is_pair : K.lookup f_is_pair = some ⟨oc_is_pair, od_is_pair, .func (PySem.W.fnOf "is_pair" "is_pair" (defArgs s_is_pair) (defBody s_is_pair) (defScope s_is_pair) .none kV_is_pair dc_is_pair pm_is_pair an_is_pair cd_is_pair ct_is_pair), sl_is_pair⟩) (c_is_pair : PySem.W.codeIn K cd_is_pair "is_pair" = true) (k_is_pair : PySem.W.keepIn K (.ref f_is_pair) = true)
    (a_is_whole_pair : PySem.W.nsIn K mainGlobals "is_whole_pair" = some (some (.ref f_is_whole_pair))) (l_is_whole_pair : K.lookup f_is_whole_pair = some ⟨oc_is_whole_pair, od_is_whole_pair, .func (PySem.W.fnOf "is_whole_pair" "is_whole_pair" (defArgs s_is_whole_pair) (defBody s_is_whole_pair) (defScope s_is_whole_pair) .none kV_is_whole_pair dc_is_whole_pair pm_is_whole_pair an_is_whole_pair cd_is_whole_pair ct_is_whole_pair), sl_is_whole_pair⟩) (c_is_whole_pair : PySem.W.codeIn K cd_is_whole_pair "is_whole_pair" = true) (k_is_whole_pair : PySem.W.keepIn K (.ref f_is_whole_pair) = true)
    (a_catches : PySem.W.nsIn K mainGlobals "catches" = some (some (.ref f_catches))) (l_catches : K.lookup f_catches = some ⟨oc_catches, od_catches, .func (PySem.W.fnOf "catches" "catches" (defArgs s_catches) (defBody s_catches) (defScope s_catches) .none kV_catches dc_catches pm_catches an_catches cd_catches ct_catches), sl_catches⟩) (c_catches : PySem.W.codeIn K cd_catches "catches" = true) (k_catches : PySem.W.keepIn K (.ref f_catches) = true)
    (a_copied_comb : PySem.W.nsIn K mainGlobals "copied_comb" = some (some (.ref f_copied_comb))) (l_copied_comb : K.lookup f_copied_comb = some ⟨oc_copied_comb, od_copied_comb, .func (PySem.W.fnOf "copied_comb" "copied_comb" (defArgs s_copied_comb) (defBody s_copied_comb) (defScope s_copied_comb) .none kV_copied_comb dc_copied_comb pm_copied_comb an_copied_comb cd_copied_comb ct_copied_comb), sl_copied_comb⟩) (c_copied_comb : PySem.W.codeIn K cd_copied_comb "copied_comb" = true) (k_copied_comb : PySem.W.keepIn K (.ref f_copied_comb) = true)
    (a_is_pitch : PySem.W.nsIn K mainGlobals "is_pitch" = some (some (.ref f_is_pitch))) (l_is_pitch : K.lookup f_is_pitch = some ⟨oc_is_pitch, od_is_pitch, .func (PySem.W.fnOf "is_pitch" "is_pitch" (defArgs s_is_pitch) (defBody s_is_pitch) (defScope s_is_pitch) .none kV_is_pitch dc_is_pitch pm_is_pitch an_is_pitch cd_is_pitch ct_is_pitch), sl_is_pitch⟩) (c_is_pitch : PySem.W.codeIn K cd_is_pitch "is_pitch" = true) (k_is_pitch : PySem.W.keepIn K (.ref f_is_pitch) = true)
    (a_are_teeth : PySem.W.nsIn K mainGlobals "are_teeth" = some (some (.ref f_are_teeth))) (l_are_teeth : K.lookup f_are_teeth = some ⟨oc_are_teeth, od_are_teeth, .func (PySem.W.fnOf "are_teeth" "are_teeth" (defArgs s_are_teeth) (defBody s_are_teeth) (defScope s_are_teeth) .none kV_are_teeth dc_are_teeth pm_are_teeth an_are_teeth cd_are_teeth ct_are_teeth), sl_are_teeth⟩) (c_are_teeth : PySem.W.codeIn K cd_are_teeth "are_teeth" = true) (k_are_teeth : PySem.W.keepIn K (.ref f_are_teeth) = true)
    (a_check_comb : PySem.W.nsIn K mainGlobals "check_comb" = some (some (.ref f_check_comb))) (l_check_comb : K.lookup f_check_comb = some ⟨oc_check_comb, od_check_comb, .func (PySem.W.fnOf "check_comb" "check_comb" (defArgs s_check_comb) (defBody s_check_comb) (defScope s_check_comb) .none kV_check_comb dc_check_comb pm_check_comb an_check_comb cd_check_comb ct_check_comb), sl_check_comb⟩) (c_check_comb : PySem.W.codeIn K cd_check_comb "check_comb" = true) (k_check_comb : PySem.W.keepIn K (.ref f_check_comb) = true)
    (a_check_device : PySem.W.nsIn K mainGlobals "check_device" = some (some (.ref f_check_device))) (l_check_device : K.lookup f_check_device = some ⟨oc_check_device, od_check_device, .func (PySem.W.fnOf "check_device" "check_device" (defArgs s_check_device) (defBody s_check_device) (defScope s_check_device) .none kV_check_device dc_check_device pm_check_device an_check_device cd_check_device ct_check_device), sl_check_device⟩) (c_check_device : PySem.W.codeIn K cd_check_device "check_device" = true) (k_check_device : PySem.W.keepIn K (.ref f_check_device) = true)
    (a_is_comb : PySem.W.nsIn K mainGlobals "is_comb" = some (some (.ref f_is_comb))) (l_is_comb : K.lookup f_is_comb = some ⟨oc_is_comb, od_is_comb, .func (PySem.W.fnOf "is_comb" "is_comb" (defArgs s_is_comb) (defBody s_is_comb) (defScope s_is_comb) .none kV_is_comb dc_is_comb pm_is_comb an_is_comb cd_is_comb ct_is_comb), sl_is_comb⟩) (c_is_comb : PySem.W.codeIn K cd_is_comb "is_comb" = true) (k_is_comb : PySem.W.keepIn K (.ref f_is_comb) = true)
    (a_plain_comb : PySem.W.nsIn K mainGlobals "plain_comb" = some (some (.ref f_plain_comb))) (l_plain_comb : K.lookup f_plain_comb = some ⟨oc_plain_comb, od_plain_comb, .func (PySem.W.fnOf "plain_comb" "plain_comb" (defArgs s_plain_comb) (defBody s_plain_comb) (defScope s_plain_comb) .none kV_plain_comb dc_plain_comb pm_plain_comb an_plain_comb cd_plain_comb ct_plain_comb), sl_plain_comb⟩) (c_plain_comb : PySem.W.codeIn K cd_plain_comb "plain_comb" = true) (k_plain_comb : PySem.W.keepIn K (.ref f_plain_comb) = true)
    (a_teeth_under : PySem.W.nsIn K mainGlobals "teeth_under" = some (some (.ref f_teeth_under))) (l_teeth_under : K.lookup f_teeth_under = some ⟨oc_teeth_under, od_teeth_under, .func (PySem.W.fnOf "teeth_under" "teeth_under" (defArgs s_teeth_under) (defBody s_teeth_under) (defScope s_teeth_under) .none kV_teeth_under dc_teeth_under pm_teeth_under an_teeth_under cd_teeth_under ct_teeth_under), sl_teeth_under⟩) (c_teeth_under : PySem.W.codeIn K cd_teeth_under "teeth_under" = true) (k_teeth_under : PySem.W.keepIn K (.ref f_teeth_under) = true)
    (a_repeated_teeth : PySem.W.nsIn K mainGlobals "repeated_teeth" = some (some (.ref f_repeated_teeth))) (l_repeated_teeth : K.lookup f_repeated_teeth = some ⟨oc_repeated_teeth, od_repeated_teeth, .func (PySem.W.fnOf "repeated_teeth" "repeated_teeth" (defArgs s_repeated_teeth) (defBody s_repeated_teeth) (defScope s_repeated_teeth) .none kV_repeated_teeth dc_repeated_teeth pm_repeated_teeth an_repeated_teeth cd_repeated_teeth ct_repeated_teeth), sl_repeated_teeth⟩) (c_repeated_teeth : PySem.W.codeIn K cd_repeated_teeth "repeated_teeth" = true) (k_repeated_teeth : PySem.W.keepIn K (.ref f_repeated_teeth) = true)
    (a_is_held : PySem.W.nsIn K mainGlobals "is_held" = some (some (.ref f_is_held))) (l_is_held : K.lookup f_is_held = some ⟨oc_is_held, od_is_held, .func (PySem.W.fnOf "is_held" "is_held" (defArgs s_is_held) (defBody s_is_held) (defScope s_is_held) .none kV_is_held dc_is_held pm_is_held an_is_held cd_is_held ct_is_held), sl_is_held⟩) (c_is_held : PySem.W.codeIn K cd_is_held "is_held" = true) (k_is_held : PySem.W.keepIn K (.ref f_is_held) = true)
    (a_fits_device : PySem.W.nsIn K mainGlobals "fits_device" = some (some (.ref f_fits_device))) (l_fits_device : K.lookup f_fits_device = some ⟨oc_fits_device, od_fits_device, .func (PySem.W.fnOf "fits_device" "fits_device" (defArgs s_fits_device) (defBody s_fits_device) (defScope s_fits_device) .none kV_fits_device dc_fits_device pm_fits_device an_fits_device cd_fits_device ct_fits_device), sl_fits_device⟩) (c_fits_device : PySem.W.codeIn K cd_fits_device "fits_device" = true) (k_fits_device : PySem.W.keepIn K (.ref f_fits_device) = true)
    (a_check_state : PySem.W.nsIn K mainGlobals "check_state" = some (some (.ref f_check_state))) (l_check_state : K.lookup f_check_state = some ⟨oc_check_state, od_check_state, .func (PySem.W.fnOf "check_state" "check_state" (defArgs s_check_state) (defBody s_check_state) (defScope s_check_state) .none kV_check_state dc_check_state pm_check_state an_check_state cd_check_state ct_check_state), sl_check_state⟩) (c_check_state : PySem.W.codeIn K cd_check_state "check_state" = true) (k_check_state : PySem.W.keepIn K (.ref f_check_state) = true)
    (a_check_begun : PySem.W.nsIn K mainGlobals "check_begun" = some (some (.ref f_check_begun))) (l_check_begun : K.lookup f_check_begun = some ⟨oc_check_begun, od_check_begun, .func (PySem.W.fnOf "check_begun" "check_begun" (defArgs s_check_begun) (defBody s_check_begun) (defScope s_check_begun) .none kV_check_begun dc_check_begun pm_check_begun an_check_begun cd_check_begun ct_check_begun), sl_check_begun⟩) (c_check_begun : PySem.W.codeIn K cd_check_begun "check_begun" = true) (k_check_begun : PySem.W.keepIn K (.ref f_check_begun) = true)
    (a_check_both : PySem.W.nsIn K mainGlobals "check_both" = some (some (.ref f_check_both))) (l_check_both : K.lookup f_check_both = some ⟨oc_check_both, od_check_both, .func (PySem.W.fnOf "check_both" "check_both" (defArgs s_check_both) (defBody s_check_both) (defScope s_check_both) .none kV_check_both dc_check_both pm_check_both an_check_both cd_check_both ct_check_both), sl_check_both⟩) (c_check_both : PySem.W.codeIn K cd_check_both "check_both" = true) (k_check_both : PySem.W.keepIn K (.ref f_check_both) = true)
    (a_shifted_comb : PySem.W.nsIn K mainGlobals "shifted_comb" = some (some (.ref f_shifted_comb))) (l_shifted_comb : K.lookup f_shifted_comb = some ⟨oc_shifted_comb, od_shifted_comb, .func (PySem.W.fnOf "shifted_comb" "shifted_comb" (defArgs s_shifted_comb) (defBody s_shifted_comb) (defScope s_shifted_comb) .none kV_shifted_comb dc_shifted_comb pm_shifted_comb an_shifted_comb cd_shifted_comb ct_shifted_comb), sl_shifted_comb⟩) (c_shifted_comb : PySem.W.codeIn K cd_shifted_comb "shifted_comb" = true) (k_shifted_comb : PySem.W.keepIn K (.ref f_shifted_comb) = true)
    (a_shifted_device : PySem.W.nsIn K mainGlobals "shifted_device" = some (some (.ref f_shifted_device))) (l_shifted_device : K.lookup f_shifted_device = some ⟨oc_shifted_device, od_shifted_device, .func (PySem.W.fnOf "shifted_device" "shifted_device" (defArgs s_shifted_device) (defBody s_shifted_device) (defScope s_shifted_device) .none kV_shifted_device dc_shifted_device pm_shifted_device an_shifted_device cd_shifted_device ct_shifted_device), sl_shifted_device⟩) (c_shifted_device : PySem.W.codeIn K cd_shifted_device "shifted_device" = true) (k_shifted_device : PySem.W.keepIn K (.ref f_shifted_device) = true)
    (a_are_alike : PySem.W.nsIn K mainGlobals "are_alike" = some (some (.ref f_are_alike))) (l_are_alike : K.lookup f_are_alike = some ⟨oc_are_alike, od_are_alike, .func (PySem.W.fnOf "are_alike" "are_alike" (defArgs s_are_alike) (defBody s_are_alike) (defScope s_are_alike) .none kV_are_alike dc_are_alike pm_are_alike an_are_alike cd_are_alike ct_are_alike), sl_are_alike⟩) (c_are_alike : PySem.W.codeIn K cd_are_alike "are_alike" = true) (k_are_alike : PySem.W.keepIn K (.ref f_are_alike) = true)
    (a_plain_device : PySem.W.nsIn K mainGlobals "plain_device" = some (some (.ref f_plain_device))) (l_plain_device : K.lookup f_plain_device = some ⟨oc_plain_device, od_plain_device, .func (PySem.W.fnOf "plain_device" "plain_device" (defArgs s_plain_device) (defBody s_plain_device) (defScope s_plain_device) .none kV_plain_device dc_plain_device pm_plain_device an_plain_device cd_plain_device ct_plain_device), sl_plain_device⟩) (c_plain_device : PySem.W.codeIn K cd_plain_device "plain_device" = true) (k_plain_device : PySem.W.keepIn K (.ref f_plain_device) = true)
    (a_alike_state : PySem.W.nsIn K mainGlobals "alike_state" = some (some (.ref f_alike_state))) (l_alike_state : K.lookup f_alike_state = some ⟨oc_alike_state, od_alike_state, .func (PySem.W.fnOf "alike_state" "alike_state" (defArgs s_alike_state) (defBody s_alike_state) (defScope s_alike_state) .none kV_alike_state dc_alike_state pm_alike_state an_alike_state cd_alike_state ct_alike_state), sl_alike_state⟩) (c_alike_state : PySem.W.codeIn K cd_alike_state "alike_state" = true) (k_alike_state : PySem.W.keepIn K (.ref f_alike_state) = true)
    (a__law_jar : PySem.W.nsIn K mainGlobals "_law_jar" = some (some (.ref f__law_jar))) (l__law_jar : K.lookup f__law_jar = some ⟨oc__law_jar, od__law_jar, .func (PySem.W.fnOf "_law_jar" "_law_jar" (defArgs s__law_jar) (defBody s__law_jar) (defScope s__law_jar) .none kV__law_jar dc__law_jar pm__law_jar an__law_jar cd__law_jar ct__law_jar), sl__law_jar⟩) (c__law_jar : PySem.W.codeIn K cd__law_jar "_law_jar" = true) (k__law_jar : PySem.W.keepIn K (.ref f__law_jar) = true)
    (a__law_pick : PySem.W.nsIn K mainGlobals "_law_pick" = some (some (.ref f__law_pick))) (l__law_pick : K.lookup f__law_pick = some ⟨oc__law_pick, od__law_pick, .func (PySem.W.fnOf "_law_pick" "_law_pick" (defArgs s__law_pick) (defBody s__law_pick) (defScope s__law_pick) .none kV__law_pick dc__law_pick pm__law_pick an__law_pick cd__law_pick ct__law_pick), sl__law_pick⟩) (c__law_pick : PySem.W.codeIn K cd__law_pick "_law_pick" = true) (k__law_pick : PySem.W.keepIn K (.ref f__law_pick) = true)
    (a__law_comb : PySem.W.nsIn K mainGlobals "_law_comb" = some (some (.ref f__law_comb))) (l__law_comb : K.lookup f__law_comb = some ⟨oc__law_comb, od__law_comb, .func (PySem.W.fnOf "_law_comb" "_law_comb" (defArgs s__law_comb) (defBody s__law_comb) (defScope s__law_comb) .none kV__law_comb dc__law_comb pm__law_comb an__law_comb cd__law_comb ct__law_comb), sl__law_comb⟩) (c__law_comb : PySem.W.codeIn K cd__law_comb "_law_comb" = true) (k__law_comb : PySem.W.keepIn K (.ref f__law_comb) = true)
    (a__law_pair : PySem.W.nsIn K mainGlobals "_law_pair" = some (some (.ref f__law_pair))) (l__law_pair : K.lookup f__law_pair = some ⟨oc__law_pair, od__law_pair, .func (PySem.W.fnOf "_law_pair" "_law_pair" (defArgs s__law_pair) (defBody s__law_pair) (defScope s__law_pair) .none kV__law_pair dc__law_pair pm__law_pair an__law_pair cd__law_pair ct__law_pair), sl__law_pair⟩) (c__law_pair : PySem.W.codeIn K cd__law_pair "_law_pair" = true) (k__law_pair : PySem.W.keepIn K (.ref f__law_pair) = true)
    (a__law_under : PySem.W.nsIn K mainGlobals "_law_under" = some (some (.ref f__law_under))) (l__law_under : K.lookup f__law_under = some ⟨oc__law_under, od__law_under, .func (PySem.W.fnOf "_law_under" "_law_under" (defArgs s__law_under) (defBody s__law_under) (defScope s__law_under) .none kV__law_under dc__law_under pm__law_under an__law_under cd__law_under ct__law_under), sl__law_under⟩) (c__law_under : PySem.W.codeIn K cd__law_under "_law_under" = true) (k__law_under : PySem.W.keepIn K (.ref f__law_under) = true)
    (a__law_stand : PySem.W.nsIn K mainGlobals "_law_stand" = some (some (.ref f__law_stand))) (l__law_stand : K.lookup f__law_stand = some ⟨oc__law_stand, od__law_stand, .func (PySem.W.fnOf "_law_stand" "_law_stand" (defArgs s__law_stand) (defBody s__law_stand) (defScope s__law_stand) .none kV__law_stand dc__law_stand pm__law_stand an__law_stand cd__law_stand ct__law_stand), sl__law_stand⟩) (c__law_stand : PySem.W.codeIn K cd__law_stand "_law_stand" = true) (k__law_stand : PySem.W.keepIn K (.ref f__law_stand) = true)
    (a__law_row : PySem.W.nsIn K mainGlobals "_law_row" = some (some (.ref f__law_row))) (l__law_row : K.lookup f__law_row = some ⟨oc__law_row, od__law_row, .func (PySem.W.fnOf "_law_row" "_law_row" (defArgs s__law_row) (defBody s__law_row) (defScope s__law_row) .none kV__law_row dc__law_row pm__law_row an__law_row cd__law_row ct__law_row), sl__law_row⟩) (c__law_row : PySem.W.codeIn K cd__law_row "_law_row" = true) (k__law_row : PySem.W.keepIn K (.ref f__law_row) = true)
    (a__law_plain : PySem.W.nsIn K mainGlobals "_law_plain" = some (some (.ref f__law_plain))) (l__law_plain : K.lookup f__law_plain = some ⟨oc__law_plain, od__law_plain, .func (PySem.W.fnOf "_law_plain" "_law_plain" (defArgs s__law_plain) (defBody s__law_plain) (defScope s__law_plain) .none kV__law_plain dc__law_plain pm__law_plain an__law_plain cd__law_plain ct__law_plain), sl__law_plain⟩) (c__law_plain : PySem.W.codeIn K cd__law_plain "_law_plain" = true) (k__law_plain : PySem.W.keepIn K (.ref f__law_plain) = true)
    (a__law_right : PySem.W.nsIn K mainGlobals "_law_right" = some (some (.ref f__law_right))) (l__law_right : K.lookup f__law_right = some ⟨oc__law_right, od__law_right, .func (PySem.W.fnOf "_law_right" "_law_right" (defArgs s__law_right) (defBody s__law_right) (defScope s__law_right) .none kV__law_right dc__law_right pm__law_right an__law_right cd__law_right ct__law_right), sl__law_right⟩) (c__law_right : PySem.W.codeIn K cd__law_right "_law_right" = true) (k__law_right : PySem.W.keepIn K (.ref f__law_right) = true)
    (a_law : PySem.W.nsIn K mainGlobals "law" = some (some (.ref f_law))) (l_law : K.lookup f_law = some ⟨oc_law, od_law, .func (PySem.W.fnOf "law" "law" (defArgs s_law) (defBody s_law) (defScope s_law) .none kV_law dc_law pm_law an_law cd_law ct_law), sl_law⟩) (c_law : PySem.W.codeIn K cd_law "law" = true) (k_law : PySem.W.keepIn K (.ref f_law) = true)
    (z_abs : PySem.W.nsIn K mainGlobals "abs" = some none) (z_all : PySem.W.nsIn K mainGlobals "all" = some none) (z_bool : PySem.W.nsIn K mainGlobals "bool" = some none) (z_enumerate : PySem.W.nsIn K mainGlobals "enumerate" = some none) (z_int : PySem.W.nsIn K mainGlobals "int" = some none) (z_isinstance : PySem.W.nsIn K mainGlobals "isinstance" = some none) (z_len : PySem.W.nsIn K mainGlobals "len" = some none) (z_list : PySem.W.nsIn K mainGlobals "list" = some none) (z_max : PySem.W.nsIn K mainGlobals "max" = some none) (z_min : PySem.W.nsIn K mainGlobals "min" = some none) (z_range : PySem.W.nsIn K mainGlobals "range" = some none) (z_repr : PySem.W.nsIn K mainGlobals "repr" = some none) (z_sorted : PySem.W.nsIn K mainGlobals "sorted" = some none) (z_tuple : PySem.W.nsIn K mainGlobals "tuple" = some none) (z_zip : PySem.W.nsIn K mainGlobals "zip" = some none) {t_MOST_PITCH : PySem.Tok} (q_MOST_PITCH : PySem.W.nsIn K mainGlobals "MOST_PITCH" = some (some (.int 24 t_MOST_PITCH))) :
    ∃ fd : FuncData, (∀ (s : Shared) (v : Value), BindsTo s fd ⟨[v], []⟩ [("script", v)]) ∧ ∀ base : Heap, K.In base → base.Ns mainGlobals mg → FG l.prog w K mg base (9 + 1) fa fd ["script"] (spLaw K) := by
  have e := hfa.symm.trans (PySem.W.mg_of X G a_law)
  cases e
  have X_alike_state_kw_state_device : KwOk K mg "alike_state" ["device", "state"] ["state", "device"] [1, 0] := kw_mk (st := s_alike_state) X G a_alike_state l_alike_state fun kV doc pm cdv ct an ws hl => kwb_alike_state_state_device kV doc pm cdv ct an ws hl
  have X_plain_device_kw_state_device : KwOk K mg "plain_device" ["device", "state"] ["state", "device"] [1, 0] := kw_mk (st := s_plain_device) X G a_plain_device l_plain_device fun kV doc pm cdv ct an ws hl => kwb_plain_device_state_device kV doc pm cdv ct an ws hl
  have T : Tx K mg := ⟨PySem.W.mg_none_of X G z_abs, PySem.W.mg_none_of X G z_all, PySem.W.mg_none_of X G z_bool, PySem.W.mg_none_of X G z_enumerate, PySem.W.mg_none_of X G z_int, PySem.W.mg_none_of X G z_isinstance, PySem.W.mg_none_of X G z_len, PySem.W.mg_none_of X G z_list, PySem.W.mg_none_of X G z_max, PySem.W.mg_none_of X G z_min, PySem.W.mg_none_of X G z_range, PySem.W.mg_none_of X G z_repr, PySem.W.mg_none_of X G z_sorted, PySem.W.mg_none_of X G z_tuple, PySem.W.mg_none_of X G z_zip, ⟨_, PySem.W.mg_of X G q_MOST_PITCH⟩, X_alike_state_kw_state_device, X_plain_device_kw_state_device⟩
  have H_is_whole := here_mk (st := s_is_whole) (ps := ["value"]) X G a_is_whole l_is_whole c_is_whole k_is_whole fun F => F.binds fun _ _ _ _ _ _ us hl => match us, hl with | [_], _ => rfl
  have H_is_pair := here_mk (st := s_is_pair) (ps := ["value"]) X G a_is_pair l_is_pair c_is_pair k_is_pair fun F => F.binds fun _ _ _ _ _ _ us hl => match us, hl with | [_], _ => rfl
  have H_is_whole_pair := here_mk (st := s_is_whole_pair) (ps := ["value"]) X G a_is_whole_pair l_is_whole_pair c_is_whole_pair k_is_whole_pair fun F => F.binds fun _ _ _ _ _ _ us hl => match us, hl with | [_], _ => rfl
  have H_catches := here_mk (st := s_catches) (ps := ["comb", "number"]) X G a_catches l_catches c_catches k_catches fun F => F.binds fun _ _ _ _ _ _ us hl => match us, hl with | [_, _], _ => rfl
  have H_copied_comb := here_mk (st := s_copied_comb) (ps := ["comb"]) X G a_copied_comb l_copied_comb c_copied_comb k_copied_comb fun F => F.binds fun _ _ _ _ _ _ us hl => match us, hl with | [_], _ => rfl
  have H_is_pitch := here_mk (st := s_is_pitch) (ps := ["value"]) X G a_is_pitch l_is_pitch c_is_pitch k_is_pitch fun F => F.binds fun _ _ _ _ _ _ us hl => match us, hl with | [_], _ => rfl
  have H_are_teeth := here_mk (st := s_are_teeth) (ps := ["value", "pitch"]) X G a_are_teeth l_are_teeth c_are_teeth k_are_teeth fun F => F.binds fun _ _ _ _ _ _ us hl => match us, hl with | [_, _], _ => rfl
  have H_check_comb := here_mk (st := s_check_comb) (ps := ["comb"]) X G a_check_comb l_check_comb c_check_comb k_check_comb fun F => F.binds fun _ _ _ _ _ _ us hl => match us, hl with | [_], _ => rfl
  have H_check_device := here_mk (st := s_check_device) (ps := ["device"]) X G a_check_device l_check_device c_check_device k_check_device fun F => F.binds fun _ _ _ _ _ _ us hl => match us, hl with | [_], _ => rfl
  have H_is_comb := here_mk (st := s_is_comb) (ps := ["value"]) X G a_is_comb l_is_comb c_is_comb k_is_comb fun F => F.binds fun _ _ _ _ _ _ us hl => match us, hl with | [_], _ => rfl
  have H_plain_comb := here_mk (st := s_plain_comb) (ps := ["comb"]) X G a_plain_comb l_plain_comb c_plain_comb k_plain_comb fun F => F.binds fun _ _ _ _ _ _ us hl => match us, hl with | [_], _ => rfl
  have H_teeth_under := here_mk (st := s_teeth_under) (ps := ["teeth", "part"]) X G a_teeth_under l_teeth_under c_teeth_under k_teeth_under fun F => F.binds fun _ _ _ _ _ _ us hl => match us, hl with | [_, _], _ => rfl
  have H_repeated_teeth := here_mk (st := s_repeated_teeth) (ps := ["teeth", "part", "pitch"]) X G a_repeated_teeth l_repeated_teeth c_repeated_teeth k_repeated_teeth fun F => F.binds fun _ _ _ _ _ _ us hl => match us, hl with | [_, _, _], _ => rfl
  have H_is_held := here_mk (st := s_is_held) (ps := ["device", "height", "hand"]) X G a_is_held l_is_held c_is_held k_is_held fun F => F.binds fun _ _ _ _ _ _ us hl => match us, hl with | [_, _, _], _ => rfl
  have H_fits_device := here_mk (st := s_fits_device) (ps := ["device", "value"]) X G a_fits_device l_fits_device c_fits_device k_fits_device fun F => F.binds fun _ _ _ _ _ _ us hl => match us, hl with | [_, _], _ => rfl
  have H_check_state := here_mk (st := s_check_state) (ps := ["device", "state"]) X G a_check_state l_check_state c_check_state k_check_state fun F => F.binds fun _ _ _ _ _ _ us hl => match us, hl with | [_, _], _ => rfl
  have H_check_begun := here_mk (st := s_check_begun) (ps := ["device", "state"]) X G a_check_begun l_check_begun c_check_begun k_check_begun fun F => F.binds fun _ _ _ _ _ _ us hl => match us, hl with | [_, _], _ => rfl
  have H_check_both := here_mk (st := s_check_both) (ps := ["device", "state", "second", "start"]) X G a_check_both l_check_both c_check_both k_check_both fun F => F.binds fun _ _ _ _ _ _ us hl => match us, hl with | [_, _, _, _], _ => rfl
  have H_shifted_comb := here_mk (st := s_shifted_comb) (ps := ["comb", "distance"]) X G a_shifted_comb l_shifted_comb c_shifted_comb k_shifted_comb fun F => F.binds fun _ _ _ _ _ _ us hl => match us, hl with | [_, _], _ => rfl
  have H_shifted_device := here_mk (st := s_shifted_device) (ps := ["device", "state"]) X G a_shifted_device l_shifted_device c_shifted_device k_shifted_device fun F => F.binds fun _ _ _ _ _ _ us hl => match us, hl with | [_, _], _ => rfl
  have H_are_alike := here_mk (st := s_are_alike) (ps := ["device", "state", "second", "start"]) X G a_are_alike l_are_alike c_are_alike k_are_alike fun F => F.binds fun _ _ _ _ _ _ us hl => match us, hl with | [_, _, _, _], _ => rfl
  have H_plain_device := here_mk (st := s_plain_device) (ps := ["device", "state"]) X G a_plain_device l_plain_device c_plain_device k_plain_device fun F => F.binds fun _ _ _ _ _ _ us hl => match us, hl with | [_, _], _ => rfl
  have H_alike_state := here_mk (st := s_alike_state) (ps := ["device", "state"]) X G a_alike_state l_alike_state c_alike_state k_alike_state fun F => F.binds fun _ _ _ _ _ _ us hl => match us, hl with | [_, _], _ => rfl
  have H__law_jar := here_mk (st := s__law_jar) (ps := ["script", "at"]) X G a__law_jar l__law_jar c__law_jar k__law_jar fun F => F.binds fun _ _ _ _ _ _ us hl => match us, hl with | [_, _], _ => rfl
  have H__law_pick := here_mk (st := s__law_pick) (ps := ["jar", "bound"]) X G a__law_pick l__law_pick c__law_pick k__law_pick fun F => F.binds fun _ _ _ _ _ _ us hl => match us, hl with | [_, _], _ => rfl
  have H__law_comb := here_mk (st := s__law_comb) (ps := ["jar", "most"]) X G a__law_comb l__law_comb c__law_comb k__law_comb fun F => F.binds fun _ _ _ _ _ _ us hl => match us, hl with | [_, _], _ => rfl
  have H__law_pair := here_mk (st := s__law_pair) (ps := ["jar", "most"]) X G a__law_pair l__law_pair c__law_pair k__law_pair fun F => F.binds fun _ _ _ _ _ _ us hl => match us, hl with | [_, _], _ => rfl
  have H__law_under := here_mk (st := s__law_under) (ps := ["comb_here", "spot"]) X G a__law_under l__law_under c__law_under k__law_under fun F => F.binds fun _ _ _ _ _ _ us hl => match us, hl with | [_, _], _ => rfl
  have H__law_stand := here_mk (st := s__law_stand) (ps := ["jar", "pair", "far"]) X G a__law_stand l__law_stand c__law_stand k__law_stand fun F => F.binds fun _ _ _ _ _ _ us hl => match us, hl with | [_, _, _], _ => rfl
  have H__law_row := here_mk (st := s__law_row) (ps := ["one", "spot"]) X G a__law_row l__law_row c__law_row k__law_row fun F => F.binds fun _ _ _ _ _ _ us hl => match us, hl with | [_, _], _ => rfl
  have H__law_plain := here_mk (st := s__law_plain) (ps := ["one", "spot"]) X G a__law_plain l__law_plain c__law_plain k__law_plain fun F => F.binds fun _ _ _ _ _ _ us hl => match us, hl with | [_, _], _ => rfl
  have H__law_right := here_mk (st := s__law_right) (ps := ["pair", "stand"]) X G a__law_right l__law_right c__law_right k__law_right fun F => F.binds fun _ _ _ _ _ _ us hl => match us, hl with | [_, _], _ => rfl
  have H_law := here_mk (st := s_law) (ps := ["script"]) X G a_law l_law c_law k_law fun F => F.binds fun _ _ _ _ _ _ us hl => match us, hl with | [_], _ => rfl
  refine ⟨PySem.W.fnOf "law" "law" (defArgs s_law) (defBody s_law) (defScope s_law) .none kV_law dc_law pm_law an_law cd_law ct_law, fun s v => .of_eq rfl, fun base _ _ => ?_⟩
  have D_is_whole := ok_is_whole (P := l.prog) (w := w) (base := base) T  H_is_whole
  have D_is_pair := ok_is_pair (P := l.prog) (w := w) (base := base) T  H_is_pair
  have D_catches := ok_catches (P := l.prog) (w := w) (base := base) T  H_catches
  have D_copied_comb := ok_copied_comb (P := l.prog) (w := w) (base := base) T  H_copied_comb
  have D_teeth_under := ok_teeth_under (P := l.prog) (w := w) (base := base) T  H_teeth_under
  have D__law_jar := ok__law_jar (P := l.prog) (w := w) (base := base) T  H__law_jar
  have D__law_pick := ok__law_pick (P := l.prog) (w := w) (base := base) T  H__law_pick
  have D__law_under := ok__law_under (P := l.prog) (w := w) (base := base) T  H__law_under
  have D__law_row := ok__law_row (P := l.prog) (w := w) (base := base) T  H__law_row
  have D_is_whole_pair := ok_is_whole_pair (P := l.prog) (w := w) (base := base) T D_is_pair D_is_whole H_is_whole_pair
  have D_is_pitch := ok_is_pitch (P := l.prog) (w := w) (base := base) T D_is_whole H_is_pitch
  have D_are_teeth := ok_are_teeth (P := l.prog) (w := w) (base := base) T D_is_whole H_are_teeth
  have D_repeated_teeth := ok_repeated_teeth (P := l.prog) (w := w) (base := base) T D_teeth_under H_repeated_teeth
  have D_is_held := ok_is_held (P := l.prog) (w := w) (base := base) T D_catches H_is_held
  have D__law_comb := ok__law_comb (P := l.prog) (w := w) (base := base) T D__law_pick H__law_comb
  have D__law_stand := ok__law_stand (P := l.prog) (w := w) (base := base) T D__law_pick D__law_under H__law_stand
  have D__law_plain := ok__law_plain (P := l.prog) (w := w) (base := base) T D__law_row H__law_plain
  have D_check_comb := ok_check_comb (P := l.prog) (w := w) (base := base) T D_are_teeth D_is_pair D_is_pitch H_check_comb
  have D_is_comb := ok_is_comb (P := l.prog) (w := w) (base := base) T D_are_teeth D_is_pair D_is_pitch H_is_comb
  have D_fits_device := ok_fits_device (P := l.prog) (w := w) (base := base) T D_is_held D_is_whole_pair H_fits_device
  have D__law_pair := ok__law_pair (P := l.prog) (w := w) (base := base) T D__law_comb D__law_pick H__law_pair
  have D_check_device := ok_check_device (P := l.prog) (w := w) (base := base) T D_is_comb D_is_pair H_check_device
  have D_plain_comb := ok_plain_comb (P := l.prog) (w := w) (base := base) T D_check_comb D_copied_comb D_repeated_teeth D_teeth_under H_plain_comb
  have D_check_state := ok_check_state (P := l.prog) (w := w) (base := base) T D_fits_device H_check_state
  have D_check_begun := ok_check_begun (P := l.prog) (w := w) (base := base) T D_check_device D_check_state H_check_begun
  have D_shifted_comb := ok_shifted_comb (P := l.prog) (w := w) (base := base) T D_plain_comb H_shifted_comb
  have D_check_both := ok_check_both (P := l.prog) (w := w) (base := base) T D_check_begun H_check_both
  have D_shifted_device := ok_shifted_device (P := l.prog) (w := w) (base := base) T D_shifted_comb H_shifted_device
  have D_alike_state := ok_alike_state (P := l.prog) (w := w) (base := base) T D_check_begun D_plain_comb H_alike_state
  have D_are_alike := ok_are_alike (P := l.prog) (w := w) (base := base) T D_check_both D_shifted_device H_are_alike
  have D_plain_device := ok_plain_device (P := l.prog) (w := w) (base := base) T D_check_begun D_shifted_device H_plain_device
  have D__law_right := ok__law_right (P := l.prog) (w := w) (base := base) T D__law_plain D__law_row D_alike_state D_are_alike D_plain_device H__law_right
  exact ok_law T D__law_jar D__law_pair D__law_pick D__law_right D__law_stand D_alike_state D_plain_device H_law
end K
open PySem PySem.W PyProof.Rows
set_option maxHeartbeats 0 in
theorem PySem.Challenge.cw_twocombs_k29_plain_devices_and_alike_sta_holds : PySem.Challenge.rw_twocombs_k29_plain_devices_and_alike_sta.Holds := by
  w_on; o_law; k_head; (case hw => w_witness2)
  k_fill
  refine PD.fg_end (l := PySem.Challenge.rw_twocombs_k29_plain_devices_and_alike_sta) (n := 63) (k := 10) (x := "script") (sp := fun w => PD.spLaw (_)) rfl (by decide) rfl ⟨rfl, by decide, by decide⟩ (fun w h Y => PySem.W.kIn_of Y) ?F (fun _ _ a ns hl _ hS => ⟨a, ns, rfl, hS, hl, fun _ => rfl⟩)
  case F =>
    intro w mg fa h KX G hmg
    refine' K.all_mk KX G hmg ?a_is_whole ?l_is_whole ?c_is_whole ?k_is_whole ?a_is_pair ?l_is_pair ?c_is_pair ?k_is_pair ?a_is_whole_pair ?l_is_whole_pair ?c_is_whole_pair ?k_is_whole_pair ?a_catches ?l_catches ?c_catches ?k_catches ?a_copied_comb ?l_copied_comb ?c_copied_comb ?k_copied_comb ?a_is_pitch ?l_is_pitch ?c_is_pitch ?k_is_pitch ?a_are_teeth ?l_are_teeth ?c_are_teeth ?k_are_teeth ?a_check_comb ?l_check_comb ?c_check_comb ?k_check_comb ?a_check_device ?l_check_device ?c_check_device ?k_check_device ?a_is_comb ?l_is_comb ?c_is_comb ?k_is_comb ?a_plain_comb ?l_plain_comb ?c_plain_comb ?k_plain_comb ?a_teeth_under ?l_teeth_under ?c_teeth_under ?k_teeth_under ?a_repeated_teeth ?l_repeated_teeth ?c_repeated_teeth ?k_repeated_teeth ?a_is_held ?l_is_held ?c_is_held ?k_is_held ?a_fits_device ?l_fits_device ?c_fits_device ?k_fits_device ?a_check_state ?l_check_state ?c_check_state ?k_check_state ?a_check_begun ?l_check_begun ?c_check_begun ?k_check_begun ?a_check_both ?l_check_both ?c_check_both ?k_check_both ?a_shifted_comb ?l_shifted_comb ?c_shifted_comb ?k_shifted_comb ?a_shifted_device ?l_shifted_device ?c_shifted_device ?k_shifted_device ?a_are_alike ?l_are_alike ?c_are_alike ?k_are_alike ?a_plain_device ?l_plain_device ?c_plain_device ?k_plain_device ?a_alike_state ?l_alike_state ?c_alike_state ?k_alike_state ?a__law_jar ?l__law_jar ?c__law_jar ?k__law_jar ?a__law_pick ?l__law_pick ?c__law_pick ?k__law_pick ?a__law_comb ?l__law_comb ?c__law_comb ?k__law_comb ?a__law_pair ?l__law_pair ?c__law_pair ?k__law_pair ?a__law_under ?l__law_under ?c__law_under ?k__law_under ?a__law_stand ?l__law_stand ?c__law_stand ?k__law_stand ?a__law_row ?l__law_row ?c__law_row ?k__law_row ?a__law_plain ?l__law_plain ?c__law_plain ?k__law_plain ?a__law_right ?l__law_right ?c__law_right ?k__law_right ?a_law ?l_law ?c_law ?k_law ?z_abs ?z_all ?z_bool ?z_enumerate ?z_int ?z_isinstance ?z_len ?z_list ?z_max ?z_min ?z_range ?z_repr ?z_sorted ?z_tuple ?z_zip ?q_MOST_PITCH
    (case a_is_whole => k_is); (case l_is_whole => k_is); (case c_is_whole => k_is); (case k_is_whole => k_is); (case a_is_pair => k_is); (case l_is_pair => k_is); (case c_is_pair => k_is); (case k_is_pair => k_is); (case a_is_whole_pair => k_is); (case l_is_whole_pair => k_is); (case c_is_whole_pair => k_is); (case k_is_whole_pair => k_is); (case a_catches => k_is); (case l_catches => k_is); (case c_catches => k_is); (case k_catches => k_is); (case a_copied_comb => k_is); (case l_copied_comb => k_is); (case c_copied_comb => k_is); (case k_copied_comb => k_is); (case a_is_pitch => k_is); (case l_is_pitch => k_is); (case c_is_pitch => k_is); (case k_is_pitch => k_is); (case a_are_teeth => k_is); (case l_are_teeth => k_is); (case c_are_teeth => k_is); (case k_are_teeth => k_is); (case a_check_comb => k_is); (case l_check_comb => k_is); (case c_check_comb => k_is); (case k_check_comb => k_is); (case a_check_device => k_is); (case l_check_device => k_is); (case c_check_device => k_is); (case k_check_device => k_is); (case a_is_comb => k_is); (case l_is_comb => k_is); (case c_is_comb => k_is); (case k_is_comb => k_is); (case a_plain_comb => k_is); (case l_plain_comb => k_is); (case c_plain_comb => k_is); (case k_plain_comb => k_is); (case a_teeth_under => k_is); (case l_teeth_under => k_is); (case c_teeth_under => k_is); (case k_teeth_under => k_is); (case a_repeated_teeth => k_is); (case l_repeated_teeth => k_is); (case c_repeated_teeth => k_is); (case k_repeated_teeth => k_is); (case a_is_held => k_is); (case l_is_held => k_is); (case c_is_held => k_is); (case k_is_held => k_is); (case a_fits_device => k_is); (case l_fits_device => k_is); (case c_fits_device => k_is); (case k_fits_device => k_is); (case a_check_state => k_is); (case l_check_state => k_is); (case c_check_state => k_is); (case k_check_state => k_is); (case a_check_begun => k_is); (case l_check_begun => k_is); (case c_check_begun => k_is); (case k_check_begun => k_is); (case a_check_both => k_is); (case l_check_both => k_is); (case c_check_both => k_is); (case k_check_both => k_is); (case a_shifted_comb => k_is); (case l_shifted_comb => k_is); (case c_shifted_comb => k_is); (case k_shifted_comb => k_is); (case a_shifted_device => k_is); (case l_shifted_device => k_is); (case c_shifted_device => k_is); (case k_shifted_device => k_is); (case a_are_alike => k_is); (case l_are_alike => k_is); (case c_are_alike => k_is); (case k_are_alike => k_is); (case a_plain_device => k_is); (case l_plain_device => k_is); (case c_plain_device => k_is); (case k_plain_device => k_is); (case a_alike_state => k_is); (case l_alike_state => k_is); (case c_alike_state => k_is); (case k_alike_state => k_is); (case a__law_jar => k_is); (case l__law_jar => k_is); (case c__law_jar => k_is); (case k__law_jar => k_is); (case a__law_pick => k_is); (case l__law_pick => k_is); (case c__law_pick => k_is); (case k__law_pick => k_is); (case a__law_comb => k_is); (case l__law_comb => k_is); (case c__law_comb => k_is); (case k__law_comb => k_is); (case a__law_pair => k_is); (case l__law_pair => k_is); (case c__law_pair => k_is); (case k__law_pair => k_is); (case a__law_under => k_is); (case l__law_under => k_is); (case c__law_under => k_is); (case k__law_under => k_is); (case a__law_stand => k_is); (case l__law_stand => k_is); (case c__law_stand => k_is); (case k__law_stand => k_is); (case a__law_row => k_is); (case l__law_row => k_is); (case c__law_row => k_is); (case k__law_row => k_is); (case a__law_plain => k_is); (case l__law_plain => k_is); (case c__law_plain => k_is); (case k__law_plain => k_is); (case a__law_right => k_is); (case l__law_right => k_is); (case c__law_right => k_is); (case k__law_right => k_is); (case a_law => k_is); (case l_law => k_is); (case c_law => k_is); (case k_law => k_is); (case z_abs => k_is); (case z_all => k_is); (case z_bool => k_is); (case z_enumerate => k_is); (case z_int => k_is); (case z_isinstance => k_is); (case z_len => k_is); (case z_list => k_is); (case z_max => k_is); (case z_min => k_is); (case z_range => k_is); (case z_repr => k_is); (case z_sorted => k_is); (case z_tuple => k_is); (case z_zip => k_is); (case q_MOST_PITCH => k_is)

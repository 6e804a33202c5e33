import PyProof.Rows.All
import Wide.All
import OpenK.AllK
import Wide.FinOn
import HandS.ForMost
import HandS.Wide
import HandS.Evl
import HandS.IsInst
import PyProof.ReprRoads
import PyProof.ReprReads
import PyProof.ReprLen
import HandS.Conv
import KE.GoesMore
import HandS.Style
import HandS.Deep
import HandS.SortInts
import HandS.Gcd
import KE.KMathGC
import HandS.TupLen
import HandS.DictComp
import HandS.Zip
import KE.GoesZip
import HandS.SetBool
import HandS.Strs
import PyProof.Rows.SortShellAny
import HandS.Rev
import HandS.TryOnly
import HandS.EndBits
import KE.IntBitsLaws
import KE.KDictDisplayH
import PyProof.LongRange
import HandS.SetFor
import HandS.ExcOwn
import HandS.WordsExc
import HandS.ExcIs
import HandS.Property
import PySem.Challenge.RW_twocombs_k54_whole_everything_shifted_an
set_option Elab.async false
set_option linter.all false
set_option maxRecDepth 100000
set_option maxHeartbeats 4000000
/-! PD1: data in the heap, states of slots over data, what an expression comes to -/
namespace PD
open PySem PySem.Spec PyProof.Rows L2 Evl
abbrev D := PyData

mutual
/-- the value v bears the data d in the heap G -/
inductive R (G : Hp) : V → D → Prop
  | non : R G .non .none
  | bl (b : Bool) : R G (.bl b) (.bool b)
  | int (i : Int) : R G (.int i) (.int i)
  | str (x : Str) : R G (.str x) (.str x)
  | lst {a : Addr} {xs : List V} {ds : List D} : G a = some (.lst xs) → RA G xs ds → R G (.ref a) (.list ds)
  | tup {a : Addr} {xs : List V} {ds : List D} : G a = some (.tup xs) → RA G xs ds → R G (.ref a) (.tuple ds)
inductive RA (G : Hp) : List V → List D → Prop
  | nil : RA G [] []
  | cons {v : V} {vs : List V} {d : D} {ds : List D} : R G v d → RA G vs ds → RA G (v :: vs) (d :: ds)
end
mutual
theorem R.mono {G G' : Hp} (e : Ex G G') : ∀ (d : D) (v : V), R G v d → R G' v d
  | .none, _, h => by cases h; exact .non
  | .bool b, _, h => by cases h; exact .bl b
  | .int i, _, h => by cases h; exact .int i
  | .str x, _, h => by cases h; exact .str x
  | .list ds, _, h => by
    cases h with
    | lst a b => exact .lst (e _ _ a) (RA.mono e ds _ b)
  | .tuple ds, _, h => by
    cases h with
    | tup a b => exact .tup (e _ _ a) (RA.mono e ds _ b)
  | .dict _, _, h => by cases h
theorem RA.mono {G G' : Hp} (e : Ex G G') : ∀ (ds : List D) (vs : List V), RA G vs ds → RA G' vs ds
  | [], _, h => by cases h; exact .nil
  | d :: ds, _, h => by
    cases h with
    | cons a b => exact .cons (R.mono e d _ a) (RA.mono e ds _ b)
end
theorem R.up {G G' : Hp} {v : V} {d : D} (h : R G v d) (e : Ex G G') : R G' v d := R.mono e d v h
theorem RA.up {G G' : Hp} {v : List V} {d : List D} (h : RA G v d) (e : Ex G G') : RA G' v d := RA.mono e d v h
mutual
theorem R.dp {K : PySem.W.Frag} {G : Hp} : ∀ (d : D) (v : V), R G v d → Dp K G v d
  | .none, _, h => by cases h; exact .non
  | .bool b, _, h => by cases h; exact .bl b
  | .int i, _, h => by cases h; exact .int i
  | .str x, _, h => by cases h; exact .str x
  | .list ds, _, h => by
    cases h with
    | lst a b => exact .lst (SqL.of a) (RA.dp ds _ b)
  | .tuple ds, _, h => by
    cases h with
    | tup a b => exact .tup (SqT.of a) (RA.dp ds _ b)
  | .dict _, _, h => by cases h
theorem RA.dp {K : PySem.W.Frag} {G : Hp} : ∀ (ds : List D) (vs : List V), RA G vs ds → DpAll K G vs ds
  | [], _, h => by cases h; exact .nil
  | d :: ds, _, h => by
    cases h with
    | cons a b => exact .cons (R.dp d _ a) (RA.dp ds _ b)
end
theorem RA.len {G : Hp} : ∀ {vs : List V} {ds : List D}, RA G vs ds → vs.length = ds.length
  | _, _, .nil => rfl
  | _, _, .cons _ t => by rw [List.length_cons, List.length_cons, RA.len t]
theorem RA.get {G : Hp} : ∀ {vs : List V} {ds : List D} {i : Nat} {d : D}, RA G vs ds → ds[i]? = some d → ∃ v, vs[i]? = some v ∧ R G v d
  | _, _, _, _, .nil, e => by simp at e
  | _, _, 0, _, .cons r _, e => by simp at e; subst e; exact ⟨_, rfl, r⟩
  | _, _, i + 1, d, .cons _ t, e => by
    obtain ⟨u, h1, h2⟩ := RA.get (i := i) (d := d) t (by simpa using e)
    exact ⟨u, by simpa using h1, h2⟩
theorem RA.get' {G : Hp} : ∀ {vs : List V} {ds : List D} {i : Nat} {v : V}, RA G vs ds → vs[i]? = some v → ∃ d, ds[i]? = some d ∧ R G v d
  | _, _, _, _, .nil, e => by simp at e
  | _, _, 0, _, .cons r _, e => by simp at e; subst e; exact ⟨_, rfl, r⟩
  | _, _, i + 1, d, .cons _ t, e => by
    obtain ⟨u, h1, h2⟩ := RA.get' (i := i) t (by simpa using e)
    exact ⟨u, by simpa using h1, h2⟩
theorem RA.app {G : Hp} : ∀ {vs : List V} {ds : List D} {us : List V} {es : List D}, RA G vs ds → RA G us es → RA G (vs ++ us) (ds ++ es)
  | _, _, _, _, .nil, s => s
  | _, _, _, _, .cons r t, s => .cons r (RA.app t s)
theorem RA.take {G : Hp} : ∀ {vs : List V} {ds : List D} (n : Nat), RA G vs ds → RA G (vs.take n) (ds.take n)
  | _, _, 0, _ => .nil
  | _, _, _ + 1, .nil => .nil
  | _, _, n + 1, .cons r t => .cons r (RA.take n t)
theorem RA.drop {G : Hp} : ∀ {vs : List V} {ds : List D} (n : Nat), RA G vs ds → RA G (vs.drop n) (ds.drop n)
  | _, _, 0, r => r
  | _, _, _ + 1, .nil => .nil
  | _, _, n + 1, .cons _ t => RA.drop n t
theorem RA.set {G : Hp} {v : V} {d : D} (r : R G v d) : ∀ {vs : List V} {ds : List D} (i : Nat), RA G vs ds → RA G (vs.set i v) (ds.set i d)
  | _, _, _, .nil => .nil
  | _, _, 0, .cons _ t => .cons r t
  | _, _, i + 1, .cons q t => .cons q (RA.set r i t)
theorem RA.erase {G : Hp} : ∀ {vs : List V} {ds : List D} (i : Nat), RA G vs ds → RA G (vs.eraseIdx i) (ds.eraseIdx i)
  | _, _, _, .nil => .nil
  | _, _, 0, .cons _ t => t
  | _, _, i + 1, .cons q t => .cons q (RA.erase i t)
theorem RA.ints {G : Hp} : ∀ {vs : List V} {ns : List Int}, RA G vs (ns.map PyData.int) → vs = ns.map V.int
  | _, [], h => by cases h; rfl
  | _, n :: ns, h => by
    cases h with
    | cons a b =>
      cases a
      rw [List.map_cons, RA.ints b]
theorem RA.of_ints {G : Hp} : ∀ (ns : List Int), RA G (ns.map V.int) (ns.map PyData.int)
  | [] => .nil
  | n :: ns => .cons (.int n) (RA.of_ints ns)

inductive W where
  | d (x : D) | o (xs : List D) | v (x : V)

structure Cn where
  H0 : Hp
  hd : Addr → Prop
  pool : Option Addr
  pin : Addr → Option HO

abbrev DS := List (Option W)
def VW (G H : Hp) (c : Cn) (v : V) : W → Prop
  | .d x => R G v x
  | .o xs => ∃ p vs, v = .ref p ∧ H p = some (.lst vs) ∧ RA G vs xs ∧ G p = none ∧ c.H0 p = none ∧ c.pin p = none ∧ c.pool ≠ some p ∧ ¬ c.hd p
  | .v x => v = x

structure HS (c : Cn) (G : Hp) (σ : L2.St) (H : Hp) (ds : DS) (pl : List D) : Prop where
  sub : Ex G H
  gh : ∀ a, c.hd a → G a = none
  gq : ∀ a, c.pool = some a → G a = none
  gn : ∀ a o, c.pin a = some o → G a = none
  keep : ∀ a o, c.pool ≠ some a → c.H0 a = some o → H a = some o
  pl : ∀ p, c.pool = some p → ¬ c.hd p ∧ c.pin p = none ∧ ∃ vs, H p = some (.lst vs) ∧ RA G vs pl
  pin : ∀ a o, c.pin a = some o → H a = some o
  hid : ∀ a, c.hd a → ∃ o, H a = some o
  len : σ.length = ds.length
  slots : ∀ (i : Nat) (w : W), ds[i]? = some (some w) → ∃ v, σ[i]? = some (some v) ∧ VW G H c v w
  own : ∀ (i j : Nat) (p : Addr) (xs ys : List D), ds[i]? = some (some (.o xs)) → ds[j]? = some (some (.o ys)) → σ[i]? = some (some (.ref p)) → σ[j]? = some (some (.ref p)) → i = j

theorem VW.up {G G' H H' : Hp} {c : Cn} {v : V} {w : W} (h : VW G H c v w) (e : Ex G G') (eH : ∀ p vs, G p = none → c.H0 p = none → c.pin p = none → c.pool ≠ some p → ¬ c.hd p → H p = some (.lst vs) → H' p = some (.lst vs) ∧ G' p = none) : VW G' H' c v w := by
  cases w with
  | d x => exact R.up h e
  | o xs =>
    obtain ⟨p, vs, a1, a2, a3, a4, a5, a6, a7, a8⟩ := h
    obtain ⟨b1, b2⟩ := eH p vs a4 a5 a6 a7 a8 a2
    exact ⟨p, vs, a1, b1, a3.up e, b2, a5, a6, a7, a8⟩
  | v x => exact h

section
variable {c : Cn} {G H : Hp} {σ : L2.St} {ds : DS} {pl : List D}
theorem HS.none_of (h : HS c G σ H ds pl) {p : Addr} (hp : H p = none) : G p = none ∧ ¬ c.hd p ∧ c.pin p = none ∧ c.pool ≠ some p ∧ c.H0 p = none := by
  refine ⟨?_, fun z => ?_, ?_, fun z => ?_, ?_⟩
  · cases e : G p with
    | none => rfl
    | some o => rw [h.sub p o e] at hp; cases hp
  · obtain ⟨o, e⟩ := h.hid p z
    rw [e] at hp; cases hp
  · cases e : c.pin p with
    | none => rfl
    | some o => rw [h.pin p o e] at hp; cases hp
  · obtain ⟨_, _, vs, e, _⟩ := h.pl p z
    rw [e] at hp; cases hp
  · cases e : c.H0 p with
    | none => rfl
    | some o =>
      by_cases z : c.pool = some p
      · obtain ⟨_, _, vs, e2, _⟩ := h.pl p z
        rw [e2] at hp; cases hp
      · rw [h.keep p o z e] at hp; cases hp
theorem HS.newD (h : HS c G σ H ds pl) {p : Addr} {o : HO} (hp : H p = none) : HS c (upd G p o) σ (upd H p o) ds pl := by
  obtain ⟨n1, n2, n3, n4, n5⟩ := h.none_of hp
  have eG : Ex G (upd G p o) := Ex.new n1
  have eH : Ex H (upd H p o) := Ex.new hp
  refine ⟨fun a u q => ?_, fun a q => ?_, fun a q => ?_, fun a u q => ?_, fun a u q1 q2 => eH _ _ (h.keep a u q1 q2), fun q z => ?_, fun a u q => eH _ _ (h.pin a u q), fun a q => ?_, h.len, fun i w q => ?_, h.own⟩
  · by_cases z : a = p
    · subst z; rw [upd_same] at q ⊢; exact q
    · rw [upd_ne z] at q ⊢; exact h.sub a u q
  · rw [upd_ne (fun z : a = p => n2 (z ▸ q))]; exact h.gh a q
  · rw [upd_ne (fun z : a = p => n4 (z ▸ q))]; exact h.gq a q
  · rw [upd_ne (fun z => by rw [z, n3] at q; cases q)]; exact h.gn a u q
  · obtain ⟨b1, b2, vs, b3, b4⟩ := h.pl q z
    exact ⟨b1, b2, vs, eH _ _ b3, b4.up eG⟩
  · obtain ⟨u, e⟩ := h.hid a q
    exact ⟨u, eH _ _ e⟩
  · obtain ⟨v, e1, e2⟩ := h.slots i w q
    refine ⟨v, e1, e2.up eG fun q vs a1 a2 a3 a4 a5 a6 => ⟨eH _ _ a6, ?_⟩⟩
    rw [upd_ne (ne_of_none a6 hp)]; exact a1
theorem HS.newH (h : HS c G σ H ds pl) {p : Addr} {o : HO} (hp : H p = none) : HS c G σ (upd H p o) ds pl := by
  have eH : Ex H (upd H p o) := Ex.new hp
  refine ⟨fun a u q => eH _ _ (h.sub a u q), h.gh, h.gq, h.gn, fun a u q1 q2 => eH _ _ (h.keep a u q1 q2), fun q z => ?_, fun a u q => eH _ _ (h.pin a u q), fun a q => ?_, h.len, fun i w q => ?_, h.own⟩
  · obtain ⟨b1, b2, vs, b3, b4⟩ := h.pl q z
    exact ⟨b1, b2, vs, eH _ _ b3, b4⟩
  · obtain ⟨u, e⟩ := h.hid a q
    exact ⟨u, eH _ _ e⟩
  · obtain ⟨v, e1, e2⟩ := h.slots i w q
    exact ⟨v, e1, e2.up (Ex.refl _) fun q vs a1 a2 a3 a4 a5 a6 => ⟨eH _ _ a6, a1⟩⟩
theorem HS.setPool (h : HS c G σ H ds pl) {p : Addr} (z : c.pool = some p) {us : List V} {pl' : List D} (hr : RA G us pl') : HS c G σ (upd H p (.lst us)) ds pl' := by
  obtain ⟨b1, b2, vs, b3, b4⟩ := h.pl p z
  have ne : ∀ a, a ≠ p → (upd H p (.lst us)) a = H a := fun a q => upd_ne q
  refine ⟨fun a u q => ?_, h.gh, h.gq, h.gn, fun a u q1 q2 => ?_, fun q z' => ?_, fun a u q => ?_, fun a q => ?_, h.len, fun i w q => ?_, h.own⟩
  · rw [ne a (fun e => by rw [e, h.gq p z] at q; cases q)]; exact h.sub a u q
  · rw [ne a (fun e => q1 (e ▸ z))]; exact h.keep a u q1 q2
  · have e : q = p := by rw [z] at z'; exact (Option.some.inj z').symm
    subst e
    exact ⟨b1, b2, us, upd_same, hr⟩
  · rw [ne a (fun e => by rw [e, b2] at q; cases q)]; exact h.pin a u q
  · rw [ne a (fun e => b1 (e ▸ q))]; exact h.hid a q
  · obtain ⟨v, e1, e2⟩ := h.slots i w q
    refine ⟨v, e1, e2.up (Ex.refl _) fun q vs a1 a2 a3 a4 a5 a6 => ⟨?_, a1⟩⟩
    rw [ne q (fun e => a4 (e ▸ z))]; exact a6
end

/-! ### what an expression comes to -/
def WE (c : Cn) (te : TE) (ds : DS) (pl : List D) (Φ : W → List D → Prop) : Prop := ∀ G σ H, HS c G σ H ds pl → ∀ Q : VK,
  (∀ v G' H' w pl', HS c G' σ H' ds pl' → Ex G G' → VW G' H' c v w → Φ w pl' → Q v H') → te σ H Q
def WA (c : Cn) (ta : TA) (ds : DS) (pl : List D) (Φ : List D → List D → Prop) : Prop := ∀ G σ H, HS c G σ H ds pl → ∀ Q : List V → Hp → Prop,
  (∀ vs G' H' xs pl', HS c G' σ H' ds pl' → Ex G G' → RA G' vs xs → Φ xs pl' → Q vs H') → ta σ H Q
def WT (c : Cn) (tt : TT) (ds : DS) (pl : List D) (Φ : Bool → List D → Prop) : Prop := ∀ G σ H, HS c G σ H ds pl → ∀ Q : Bool → Hp → Prop,
  (∀ b G' H' pl', HS c G' σ H' ds pl' → Ex G G' → Φ b pl' → Q b H') → tt σ H Q

abbrev isD (k : D → List D → Prop) : W → List D → Prop := fun w pl => match w with
  | .d x => k x pl
  | _ => False
abbrev isI (k : Int → List D → Prop) : W → List D → Prop := fun w pl => match w with
  | .d (.int i) => k i pl
  | _ => False
abbrev isB (k : Bool → List D → Prop) : W → List D → Prop := fun w pl => match w with
  | .d (.bool i) => k i pl
  | _ => False
abbrev isS (k : D → List D → Prop) : W → List D → Prop := fun w pl => match w with
  | .d x => k x pl
  | .o xs => k (.list xs) pl
  | _ => False

def dV : V → D
  | .non => .none
  | .bl b => .bool b
  | .int i => .int i
  | .str x => .str x
  | _ => .none
def plainV : V → Bool
  | .non | .bl _ | .int _ | .str _ => true
  | _ => false
theorem r_dV {G : Hp} : ∀ {v : V}, plainV v = true → R G v (dV v)
  | .non, _ => .non
  | .bl b, _ => .bl b
  | .int i, _ => .int i
  | .str x, _ => .str x
  | .byt _, h => by cases h
  | .flt _, h => by cases h
  | .ref _, h => by cases h
  | .ty _, h => by cases h

section
variable {c : Cn} {K : PySem.W.Frag} {ds : DS} {pl : List D} {Φ : W → List D → Prop} {ta tb te : TE} {tr : TA}
theorem WE.mono {Ψ : W → List D → Prop} (h : WE c te ds pl Φ) (k : ∀ w pl', Φ w pl' → Ψ w pl') : WE c te ds pl Ψ := fun G σ H hs Q q => h G σ H hs Q fun v G' H' w pl' a b e f => q v G' H' w pl' a b e (k w pl' f)
theorem WA.mono {Ψ Φ : List D → List D → Prop} (h : WA c tr ds pl Φ) (k : ∀ w pl', Φ w pl' → Ψ w pl') : WA c tr ds pl Ψ := fun G σ H hs Q q => h G σ H hs Q fun v G' H' w pl' a b e f => q v G' H' w pl' a b e (k w pl' f)
theorem WT.mono {tt : TT} {Ψ Φ : Bool → List D → Prop} (h : WT c tt ds pl Φ) (k : ∀ w pl', Φ w pl' → Ψ w pl') : WT c tt ds pl Ψ := fun G σ H hs Q q => h G σ H hs Q fun v G' H' pl' a b f => q v G' H' pl' a b (k v pl' f)

theorem we_var {i : Nat} {w : W} (hi : ds[i]? = some (some w)) (h : Φ w pl) : WE c (tVar i) ds pl Φ := fun G σ H hs Q q => by
  obtain ⟨v, e1, e2⟩ := hs.slots i w hi
  exact ⟨v, e1, q v G H w pl hs (Ex.refl _) e2 h⟩
theorem we_c {v : V} (hv : plainV v = true) (h : Φ (.d (dV v)) pl) : WE c (tC v) ds pl Φ := fun G σ H hs Q q => q v G H (.d _) pl hs (Ex.refl _) (r_dV hv) h
theorem we_int {i : Int} (h : Φ (.d (.int i)) pl) : WE c (tC (.int i)) ds pl Φ := we_c rfl h
theorem we_bl {i : Bool} (h : Φ (.d (.bool i)) pl) : WE c (tC (.bl i)) ds pl Φ := we_c rfl h
theorem we_str {i : Str} (h : Φ (.d (.str i)) pl) : WE c (tC (.str i)) ds pl Φ := we_c rfl h
theorem we_non (h : Φ (.d .none) pl) : WE c (tC .non) ds pl Φ := we_c rfl h

def RT (G H : Hp) (v : V) (x : D) : Prop := R G v x ∨ ∃ p vs xs, v = .ref p ∧ x = .list xs ∧ H p = some (.lst vs) ∧ RA G vs xs
theorem RT.h {G H : Hp} {v : V} {x : D} (h : RT G H v x) (s : Ex G H) : R H v x := by
  rcases h with h | ⟨p, vs, xs, rfl, rfl, a, b⟩
  · exact h.up s
  · exact .lst a (b.up s)
theorem RT.list {G H : Hp} {v : V} {xs : List D} (h : RT G H v (.list xs)) (s : Ex G H) : ∃ p vs, v = .ref p ∧ H p = some (.lst vs) ∧ RA G vs xs := by
  rcases h with h | ⟨p, vs, ys, rfl, e, a, b⟩
  · cases h with
    | lst a b => exact ⟨_, _, rfl, s _ _ a, b⟩
  · cases e
    exact ⟨p, vs, rfl, a, b⟩
theorem RT.tup {G H : Hp} {v : V} {xs : List D} (h : RT G H v (.tuple xs)) (s : Ex G H) : ∃ p vs, v = .ref p ∧ H p = some (.tup vs) ∧ RA G vs xs := by
  rcases h with h | ⟨p, vs, ys, rfl, e, a, b⟩
  · cases h with
    | tup a b => exact ⟨_, _, rfl, s _ _ a, b⟩
  · cases e
theorem RT.int {G H : Hp} {v : V} {i : Int} (h : RT G H v (.int i)) : v = .int i := by
  rcases h with h | ⟨p, vs, ys, rfl, e, a, b⟩
  · cases h; rfl
  · cases e
theorem RT.bl {G H : Hp} {v : V} {i : Bool} (h : RT G H v (.bool i)) : v = .bl i := by
  rcases h with h | ⟨p, vs, ys, rfl, e, a, b⟩
  · cases h; rfl
  · cases e
theorem RT.str {G H : Hp} {v : V} {i : Str} (h : RT G H v (.str i)) : v = .str i := by
  rcases h with h | ⟨p, vs, ys, rfl, e, a, b⟩
  · cases h; rfl
  · cases e
theorem RT.non {G H : Hp} {v : V} (h : RT G H v .none) : v = .non := by
  rcases h with h | ⟨p, vs, ys, rfl, e, a, b⟩
  · cases h; rfl
  · cases e
def Co (c : Cn) (ds : DS) (G : Hp) (σ : L2.St) (Φ : W → List D → Prop) (Q : VK) : Prop := ∀ z G' H' w p3, HS c G' σ H' ds p3 → Ex G G' → VW G' H' c z w → Φ w p3 → Q z H'
def OpS (c : Cn) (r : R2) (ds : DS) (x y : D) (p2 : List D) (Φ : W → List D → Prop) : Prop := ∀ G σ H v u, HS c G σ H ds p2 → RT G H v x → RT G H u y → ∀ Q : VK, Co c ds G σ Φ Q → r v u H Q
theorem we_op {r : R2} (ha : WE c ta ds pl (isD fun x p1 => WE c tb ds p1 (isS fun y p2 => OpS c r ds x y p2 Φ))) : WE c (tOp r ta tb) ds pl Φ := by
  intro G σ H hs Q q
  refine ha G σ H hs _ fun v G1 H1 w p1 h1 e1 f1 g1 => ?_
  cases w with
  | v x => exact g1.elim
  | o xs => exact g1.elim
  | d x =>
    refine g1 G1 σ H1 h1 _ fun u G2 H2 w2 p2 h2 e2 f2 g2 => ?_
    have f1' : R G2 v x := R.up (show R G1 v x from f1) e2
    cases w2 with
    | v x => exact g2.elim
    | d y => exact g2 G2 σ H2 v u h2 (.inl f1') (.inl f2) Q fun z G' H' w p3 a b e f => q z G' H' w p3 a ((e1.trans e2).trans b) e f
    | o ys =>
      obtain ⟨p, us, rfl, a2, a3, _⟩ := f2
      exact g2 G2 σ H2 v _ h2 (.inl f1') (.inr ⟨p, us, ys, rfl, rfl, a2, a3⟩) Q fun z G' H' w p3 a b e f => q z G' H' w p3 a ((e1.trans e2).trans b) e f
theorem we_opV {r : R2} {i : Nat} {xs : List D} (hi : ds[i]? = some (some (.o xs))) (hb : WE c tb ds pl (isS fun y p2 => OpS c r ds (.list xs) y p2 Φ)) : WE c (tOp r (tVar i) tb) ds pl Φ := by
  intro G σ H hs Q q
  obtain ⟨v, e1, e2⟩ := hs.slots i _ hi
  refine ⟨v, e1, ?_⟩
  refine hb G σ H hs _ fun u G2 H2 w2 p2 h2 e2' f2 g2 => ?_
  obtain ⟨v', e1', p0, us0, rfl, a20, a30, _⟩ := h2.slots i _ hi
  have ev : v = .ref p0 := by rw [e1] at e1'; exact Option.some.inj (Option.some.inj e1')
  subst ev
  cases w2 with
  | v x => exact g2.elim
  | d y => exact g2 G2 σ H2 _ u h2 (.inr ⟨p0, us0, xs, rfl, rfl, a20, a30⟩) (.inl f2) Q fun z G' H' w p3 a b e f => q z G' H' w p3 a (e2'.trans b) e f
  | o ys =>
    obtain ⟨p, us, rfl, a2, a3, _⟩ := f2
    exact g2 G2 σ H2 _ _ h2 (.inr ⟨p0, us0, xs, rfl, rfl, a20, a30⟩) (.inr ⟨p, us, ys, rfl, rfl, a2, a3⟩) Q fun z G' H' w p3 a b e f => q z G' H' w p3 a (e2'.trans b) e f

/-! ### operations -/
theorem os_I0 {g : Int → Int → V} {i j : Int} {p2 : List D} (hp : plainV (g i j) = true) (h : Φ (.d (dV (g i j))) p2) : OpS c (rI0 g) ds (.int i) (.int j) p2 Φ := fun G σ H v u hs hv hu Q q =>
  ⟨i, j, hv.int, hu.int, q _ G H (.d _) p2 hs (Ex.refl _) (r_dV hp) h⟩
theorem os_I {C : Int → Int → Prop} {g : Int → Int → V} {i j : Int} {p2 : List D} (hc : C i j) (hp : plainV (g i j) = true) (h : Φ (.d (dV (g i j))) p2) : OpS c (rI C g) ds (.int i) (.int j) p2 Φ := fun G σ H v u hs hv hu Q q =>
  ⟨i, j, hv.int, hu.int, hc, q _ G H (.d _) p2 hs (Ex.refl _) (r_dV hp) h⟩
theorem os_eqD {x y : D} {p2 : List D} (h1 : SeqAt.shaped x = true) (h2 : SeqAt.shaped y = true) (h : Φ (.d (.bool (PyData.eqv x y))) p2) : OpS c (rEqD K) ds x y p2 Φ := fun G σ H v u hs hv hu Q q =>
  ⟨x, y, R.dp _ _ (hv.h hs.sub), R.dp _ _ (hu.h hs.sub), h1, h2, q _ G H (.d _) p2 hs (Ex.refl _) (R.bl _) h⟩
theorem os_neD {x y : D} {p2 : List D} (h1 : SeqAt.shaped x = true) (h2 : SeqAt.shaped y = true) (h : Φ (.d (.bool (!PyData.eqv x y))) p2) : OpS c (rNeD K) ds x y p2 Φ := fun G σ H v u hs hv hu Q q =>
  ⟨x, y, R.dp _ _ (hv.h hs.sub), R.dp _ _ (hu.h hs.sub), h1, h2, q _ G H (.d _) p2 hs (Ex.refl _) (R.bl _) h⟩
def ixD (x : D) (i : Int) : Option D := match x with
  | .list xs => atI xs i
  | .tuple xs => atI xs i
  | .str z => if z.length ≤ sizeLine then (atI z.cps.toList i).map fun k => .str ⟨#[k]⟩ else none
  | _ => none
theorem atI_RA {G : Hp} {vs : List V} {xs : List D} {i : Int} {e : D} (h : RA G vs xs) (ha : atI xs i = some e) : ∃ v, atI vs i = some v ∧ R G v e := by
  unfold atI at ha ⊢
  rw [h.len]
  cases q : ixN xs.length i with
  | none => rw [q] at ha; cases ha
  | some j =>
    rw [q] at ha
    exact h.get ha
theorem os_ix {x e : D} {i : Int} {p2 : List D} (he : ixD x i = some e) (h : Φ (.d e) p2) : OpS c (rIx K) ds x (.int i) p2 Φ := fun G σ H v u hs hv hu Q q => by
  have eu := hu.int
  subst eu
  cases x with
  | list xs =>
    obtain ⟨p, vs, rfl, a, b⟩ := hv.list hs.sub
    obtain ⟨z, z1, z2⟩ := atI_RA b (show atI xs i = some e from he)
    exact .inl ⟨p, vs, i, z, rfl, rfl, SqL.of a, z1, q z G H (.d _) p2 hs (Ex.refl _) (show R G z e from z2) h⟩
  | tuple xs =>
    obtain ⟨p, vs, rfl, a, b⟩ := hv.tup hs.sub
    obtain ⟨z, z1, z2⟩ := atI_RA b (show atI xs i = some e from he)
    exact .inr (.inl ⟨p, vs, i, z, rfl, rfl, SqT.of a, z1, q z G H (.d _) p2 hs (Ex.refl _) (show R G z e from z2) h⟩)
  | str z =>
    have ev := hv.str
    subst ev
    have he' : (if z.length ≤ sizeLine then (atI z.cps.toList i).map fun k => (PyData.str ⟨#[k]⟩) else none) = some e := he
    by_cases hz : z.length ≤ sizeLine
    · rw [if_pos hz] at he'
      cases q1 : atI z.cps.toList i with
      | none => rw [q1] at he'; cases he'
      | some k =>
        rw [q1] at he'
        cases he'
        exact .inr (.inr ⟨z, i, k, rfl, rfl, hz, q1, q _ G H (.d _) p2 hs (Ex.refl _) (R.str _) h⟩)
    · rw [if_neg hz] at he'; cases he'
  | none => cases he
  | bool _ => cases he
  | int _ => cases he
  | dict _ => cases he
theorem flat_ints (ns : List Int) : (ns.map V.int).all flatV = true := by
  rw [List.all_map]
  exact List.all_eq_true.mpr fun _ _ => rfl
theorem inV_ints (i : Int) : ∀ ns : List Int, inV (.int i) (ns.map V.int) = decide (i ∈ ns)
  | [] => by simp [inV]
  | n :: ns => by
    have ih := inV_ints i ns
    unfold inV at ih ⊢
    rw [List.map_cons, List.any_cons, ih]
    have e : eqV (.int n) (.int i) = decide (i = n) := by
      show (n == i) = decide (i = n)
      by_cases z : i = n
      · subst z; simp
      · have z' : ¬ n = i := fun q => z q.symm
        simp [z, z']
    rw [e]
    simp
theorem os_in {i : Int} {ns : List Int} {p2 : List D} (h : Φ (.d (.bool (decide (i ∈ ns)))) p2) : OpS c (rIn K false) ds (.int i) (.list (ns.map PyData.int)) p2 Φ := fun G σ H v u hs hv hu Q q => by
  have ev := hv.int
  subst ev
  obtain ⟨p, vs, rfl, a, b⟩ := hu.list hs.sub
  have evs := b.ints
  subst evs
  refine ⟨p, _, rfl, .inl (SqL.of a), rfl, flat_ints ns, ?_⟩
  show Q (.bl (inV (.int i) (ns.map V.int))) H
  rw [inV_ints]
  exact q _ G H (.d _) p2 hs (Ex.refl _) (R.bl _) h
theorem os_cat {xs ys : List D} {p2 : List D} (hl : xs.length + ys.length ≤ sizeLine) (h : Φ (.d (.list (xs ++ ys))) p2) : OpS c rCat ds (.list xs) (.list ys) p2 Φ := fun G σ H v u hs hv hu Q q => by
  obtain ⟨p, vs, rfl, a, b⟩ := hv.list hs.sub
  obtain ⟨p', us, rfl, a', b'⟩ := hu.list hs.sub
  refine ⟨p, p', vs, us, rfl, rfl, a, a', by rw [b.len, b'.len]; exact hl, fun l hl => ?_⟩
  have n := hs.none_of hl
  exact q _ _ _ (.d _) p2 (hs.newD hl) (Ex.new n.1) (show R _ (.ref l) (.list (xs ++ ys)) from .lst upd_same ((b.app b').up (Ex.new n.1))) h

/-! ### unary, displays, tests -/
theorem we_neg (ha : WE c ta ds pl (isI fun i p1 => Φ (.d (.int (-i))) p1)) : WE c (tUn (rU fun i => .int (-i)) ta) ds pl Φ := fun G σ H hs Q q =>
  ha G σ H hs _ fun v G1 H1 w p1 h1 e1 f1 g1 => by
    match w, f1, g1 with
    | .d (.int i), f1, g1 =>
      cases f1
      exact ⟨i, rfl, q _ G1 H1 (.d _) p1 h1 e1 (R.int _) g1⟩
theorem wa_nil {Φ : List D → List D → Prop} (h : Φ [] pl) : WA c tNil ds pl Φ := fun G σ H hs Q q => q [] G H [] pl hs (Ex.refl _) .nil h
theorem wa_cons {Φ : List D → List D → Prop} (ha : WE c ta ds pl (isD fun x p1 => WA c tr ds p1 fun xs p2 => Φ (x :: xs) p2)) : WA c (tCons ta tr) ds pl Φ := fun G σ H hs Q q =>
  ha G σ H hs _ fun v G1 H1 w p1 h1 e1 f1 g1 => by
    match w, f1, g1 with
    | .d x, f1, g1 =>
      exact g1 G1 σ H1 h1 _ fun vs G2 H2 xs p2 h2 e2 f2 g2 => q (v :: vs) G2 H2 (x :: xs) p2 h2 (e1.trans e2) (.cons (R.up f1 e2) f2) g2
theorem we_tup (ha : WA c tr ds pl fun xs p1 => xs.length ≤ sizeLine ∧ Φ (.d (.tuple xs)) p1) : WE c (tTup tr) ds pl Φ := fun G σ H hs Q q =>
  ha G σ H hs _ fun vs G1 H1 xs p1 h1 e1 f1 g1 => ⟨by rw [f1.len]; exact g1.1, fun p hp => by
    have n := h1.none_of hp
    exact q _ _ _ (.d _) p1 (h1.newD hp) (e1.trans (Ex.new n.1)) (show R _ (.ref p) (.tuple xs) from .tup upd_same (f1.up (Ex.new n.1))) g1.2⟩
theorem we_lst (ha : WA c tr ds pl fun xs p1 => xs.length ≤ sizeLine ∧ Φ (.d (.list xs)) p1) : WE c (tLst tr) ds pl Φ := fun G σ H hs Q q =>
  ha G σ H hs _ fun vs G1 H1 xs p1 h1 e1 f1 g1 => ⟨by rw [f1.len]; exact g1.1, fun p hp => by
    have n := h1.none_of hp
    exact q _ _ _ (.d _) p1 (h1.newD hp) (e1.trans (Ex.new n.1)) (show R _ (.ref p) (.list xs) from .lst upd_same (f1.up (Ex.new n.1))) g1.2⟩
theorem we_lstO (ha : WA c tr ds pl fun xs p1 => xs.length ≤ sizeLine ∧ Φ (.o xs) p1) : WE c (tLst tr) ds pl Φ := fun G σ H hs Q q =>
  ha G σ H hs _ fun vs G1 H1 xs p1 h1 e1 f1 g1 => ⟨by rw [f1.len]; exact g1.1, fun p hp => by
    obtain ⟨n1, n2, n3, n4, n5⟩ := h1.none_of hp
    exact q _ G1 _ (.o xs) p1 (h1.newH hp) e1 ⟨p, vs, rfl, upd_same, f1, n1, n5, n3, n4, n2⟩ g1.2⟩

section
variable {tt tu : TT} {Ψ : Bool → List D → Prop}
theorem wt_B (h : WE c te ds pl (isB Ψ)) : WT c (tB te) ds pl Ψ := fun G σ H hs Q q => h G σ H hs _ fun v G1 H1 w p1 h1 e1 f1 g1 => by
  match w, f1, g1 with
  | .d (.bool b), f1, g1 =>
    cases f1
    exact ⟨b, rfl, q b G1 H1 p1 h1 e1 g1⟩
theorem wt_T (h : WE c te ds pl (isB Ψ)) : WT c (tTest te) ds pl Ψ := wt_B h
theorem wt_and (h : WT c tt ds pl fun b p1 => if b = true then WT c tu ds p1 Ψ else Ψ false p1) : WT c (tAnd tt tu) ds pl Ψ := fun G σ H hs Q q => h G σ H hs _ fun b G1 H1 p1 h1 e1 g1 => by
  cases b with
  | true => exact (show WT c tu ds p1 Ψ from g1) G1 σ H1 h1 Q fun b2 G2 H2 p2 h2 e2 g2 => q b2 G2 H2 p2 h2 (e1.trans e2) g2
  | false => exact q false G1 H1 p1 h1 e1 g1
theorem wt_or (h : WT c tt ds pl fun b p1 => if b = true then Ψ true p1 else WT c tu ds p1 Ψ) : WT c (tOr tt tu) ds pl Ψ := fun G σ H hs Q q => h G σ H hs _ fun b G1 H1 p1 h1 e1 g1 => by
  cases b with
  | true => exact q true G1 H1 p1 h1 e1 g1
  | false => exact (show WT c tu ds p1 Ψ from g1) G1 σ H1 h1 Q fun b2 G2 H2 p2 h2 e2 g2 => q b2 G2 H2 p2 h2 (e1.trans e2) g2
theorem wt_not (h : WT c tt ds pl fun b p1 => Ψ (!b) p1) : WT c (tNot tt) ds pl Ψ := fun G σ H hs Q q => h G σ H hs _ fun b G1 H1 p1 h1 e1 g1 => q (!b) G1 H1 p1 h1 e1 g1
theorem wt_yes (h : Ψ true pl) : WT c tYes ds pl Ψ := fun G σ H hs Q q => q true G H pl hs (Ex.refl _) h
theorem we_if (h : WT c tt ds pl fun b p1 => if b = true then WE c ta ds p1 Φ else WE c tb ds p1 Φ) : WE c (tIf tt ta tb) ds pl Φ := fun G σ H hs Q q => h G σ H hs _ fun b G1 H1 p1 h1 e1 g1 => by
  cases b with
  | true => exact (show WE c ta ds p1 Φ from g1) G1 σ H1 h1 Q fun v G2 H2 w p2 h2 e2 f2 g2 => q v G2 H2 w p2 h2 (e1.trans e2) f2 g2
  | false => exact (show WE c tb ds p1 Φ from g1) G1 σ H1 h1 Q fun v G2 H2 w p2 h2 e2 f2 g2 => q v G2 H2 w p2 h2 (e1.trans e2) f2 g2
theorem we_andV (h : WE c ta ds pl (isB fun b p1 => if b = true then WE c tb ds p1 Φ else Φ (.d (.bool false)) p1)) : WE c (tAndV ta tb) ds pl Φ := fun G σ H hs Q q => h G σ H hs _ fun v G1 H1 w p1 h1 e1 f1 g1 => by
  match w, f1, g1 with
  | .d (.bool b), f1, g1 =>
    cases f1
    refine ⟨b, rfl, ?_⟩
    cases b with
    | true => exact (show WE c tb ds p1 Φ from g1) G1 σ H1 h1 Q fun v G2 H2 w p2 h2 e2 f2 g2 => q v G2 H2 w p2 h2 (e1.trans e2) f2 g2
    | false => exact q _ G1 H1 (.d _) p1 h1 e1 (R.bl false) g1
theorem we_orV (h : WE c ta ds pl (isB fun b p1 => if b = true then Φ (.d (.bool true)) p1 else WE c tb ds p1 Φ)) : WE c (tOrV ta tb) ds pl Φ := fun G σ H hs Q q => h G σ H hs _ fun v G1 H1 w p1 h1 e1 f1 g1 => by
  match w, f1, g1 with
  | .d (.bool b), f1, g1 =>
    cases f1
    refine ⟨b, rfl, ?_⟩
    cases b with
    | true => exact q _ G1 H1 (.d _) p1 h1 e1 (R.bl true) g1
    | false => exact (show WE c tb ds p1 Φ from g1) G1 σ H1 h1 Q fun v G2 H2 w p2 h2 e2 f2 g2 => q v G2 H2 w p2 h2 (e1.trans e2) f2 g2
theorem we_notV (h : WE c ta ds pl (isB fun b p1 => Φ (.d (.bool (!b))) p1)) : WE c (tNotV ta) ds pl Φ := fun G σ H hs Q q => h G σ H hs _ fun v G1 H1 w p1 h1 e1 f1 g1 => by
  match w, f1, g1 with
  | .d (.bool b), f1, g1 =>
    cases f1
    exact ⟨b, rfl, q _ G1 H1 (.d _) p1 h1 e1 (R.bl _) g1⟩
def truD : D → Bool
  | .none => false
  | .bool b => b
  | .int i => i != 0
  | .str y => (y.length : Int) != 0
  | .list xs => !xs.isEmpty
  | .tuple xs => !xs.isEmpty
  | .dict xs => !xs.isEmpty
def truOk : D → Bool
  | .str y => decide (y.length ≤ sizeLine)
  | .dict _ => false
  | _ => true
theorem empty_RA {G : Hp} {vs : List V} {xs : List D} (h : RA G vs xs) : (!vs.isEmpty) = !xs.isEmpty := by cases h <;> rfl
theorem tru_RT {G H : Hp} {v : V} {x : D} (s : Ex G H) (h : RT G H v x) (ok : truOk x = true) : TruV K v H (truD x) := by
  cases x with
  | none => rw [h.non]; exact rfl
  | bool b => rw [h.bl]; exact rfl
  | int i => rw [h.int]; exact rfl
  | str y => rw [h.str]; exact ⟨of_decide_eq_true ok, rfl⟩
  | list xs =>
    obtain ⟨p, vs, rfl, a, b⟩ := h.list s
    exact .inl ⟨vs, SqL.of a, (empty_RA b).symm⟩
  | tuple xs =>
    obtain ⟨p, vs, rfl, a, b⟩ := h.tup s
    exact .inr (.inl ⟨vs, SqT.of a, (empty_RA b).symm⟩)
  | dict _ => cases ok
theorem wt_tru (h : WE c te ds pl (isS fun x p1 => truOk x = true ∧ Ψ (truD x) p1)) : WT c (fun σ H Q => te σ H fun x H' => ∃ k, TruV K x H' k ∧ Q k H') ds pl Ψ := fun G σ H hs Q q => h G σ H hs _ fun v G1 H1 w p1 h1 e1 f1 g1 => by
  match w, f1, g1 with
  | .d x, f1, g1 => exact ⟨_, tru_RT h1.sub (.inl f1) g1.1, q _ G1 H1 p1 h1 e1 g1.2⟩
  | .o xs, f1, g1 =>
    obtain ⟨p, us, rfl, a2, a3, _⟩ := f1
    exact ⟨_, tru_RT h1.sub (.inr ⟨p, us, xs, rfl, rfl, a2, a3⟩) g1.1, q _ G1 H1 p1 h1 e1 g1.2⟩
end
end
end PD

/-! PD2: a def's promise where no container is being shown (guards empty), its rule, its call, a law's end -/
namespace PD
open PySem PySem.Spec PyProof.Rows L2 Evl

structure FG (P : Program) (w : World) (K : PySem.W.Frag) (mg : Str → Option Value) (base : Heap) (k : Nat) (f : Addr) (fd : FuncData) (ps : List Str) (sp : Sp) : Prop where
  many : ∀ vs H Q E, sp vs H Q E → vs.length = ps.length
  goes : ∀ (B : Around) (fr : List Env) (s : Shared) (H : Hp) (ar : Args) (us : List Value) (vs : List V) (Q : VK) (E : XK), B.guards = some [] → Room k B → Env0 P w K mg base B fr s H →
    BindsTo s fd ar (ps.zip us) → Vals vs us → sp vs H Q E → codeAny (model P w) B (.call (.ref f) ar) (CR CX0 fr P w H s Q E) s
section
variable {P : Program} {w : World} {K : PySem.W.Frag} {mg : Str → Option Value} {base : Heap} {k : Nat} {f : Addr} {fd : FuncData} {ps : List Str} {sp : Sp}
theorem fg_of {x qual : Str} {st : Stmt} {N : List Str} (F : Fun K x qual st f fd) (S : FnScope N ps (defScope st)) (len : ∀ vs H Q E, sp vs H Q E → vs.length = ps.length)
    (body : ∀ (cdv : Value) (B : Around) (fr : List Env) (s : Shared) (H : Hp) (vs : List V) (Q : VK) (E : XK), B.guards = some [] → Room k (B.deeper (envOfC qual (defScope st) s.heap.objs.size f cdv)) → sp vs H Q E →
      ∃ t, PSs (cxOf CX0 P w K mg base N qual (defScope st) f cdv B fr s H E).nox (defBody st) t ∧ t { nx := fun _ H' => Q .non H', rt := Q } (start N vs) H) : FG P w K mg base (k + 1) f fd ps sp := by
  obtain ⟨oc, od, kV, doc, pm, an, cdv, ct, osl, rfl, lk, hcd⟩ := F.ex
  constructor
  · exact len
  intro B fr s H ar us vs Q E hg hr e0 hb r hsp
  have kin := e0.mod.kin.keeps fun b o e => (e0.bs b o e).1
  have nolim := e0.mod.nolimit.keeps fun b o e => (e0.bs b o e).1
  have kinds : ∀ y ∈ ps.zip us, (defScope st).names.lookup y.1 = some .local ∨ ((defScope st).names.lookup y.1 = some .cell ∧
      ((cellsFrom (s.heap.objs.size + 1) (defScope st).names []).lookup y.1).isSome = true) := by
    rintro ⟨n, v⟩ hy
    cases S.par n (List.of_mem_zip hy).1 with
    | inl q => exact Or.inl q
    | inr q => exact Or.inr ⟨q, PySem.W.cellsFrom_some _ _ _ (Or.inl q)⟩
  apply codeAny_call_function hr.depth (kin _ _ lk) rfl S.co S.gen rfl (PySem.W.codeRec_of kin hcd)
  refine hb _ _ _ _ (wpAny_newFunctionEnv_cells S.kind kinds ?_)
  intro env he s1 x
  subst he
  refine ⟨nolim.keeps x.toInCall.keep, codeAny_func ?_⟩
  obtain ⟨t, ht, hq⟩ := body cdv B fr s H vs Q E hg (hr.deeper _) hsp
  have I0 := inv_start (CX := CX0) (P := P) (E := E) S hr.hd e0 (len _ _ _ _ hsp) r x
  refine wpAny_mono (ht.nox.run [] s1 (start N vs) H _ I0 hq) ?_ (fun _ _ q => q)
  intro fl s2 hs
  match fl, hs with
  | .ret u, ⟨v, _, H2, J, rv, q⟩ => exact ⟨v, H2, J.os, J.bare, J.base, J.hok, rv, q⟩
  | .next, ⟨_, H2, J, q⟩ => exact ⟨V.non, H2, J.os, J.bare, J.base, J.hok, rfl, q⟩
  | .brk, ⟨_, _, _, q⟩ => exact q.elim
  | .cont, ⟨_, _, _, q⟩ => exact q.elim
end
section
variable {X : Cx} {k : Nat} {f : Addr} {fd : FuncData} {ps : List Str} {sp : Sp} {E : XK} {x : Str} {p pos : Pos} {e : Expr} {es : List Expr} {t : TA}
theorem fg_run {pins : List (Addr × Obj)} {σ : L2.St} {H : Hp} {s : Shared} {Q : VK} {us : List Value} {vs : List V} (hG : X.A.guards = some []) (F : FG X.prog X.w X.K X.mg X.base k f fd ps sp) (hr : Room k X.A) (hb : Binds X.K fd ps [])
    (I : Inv X pins σ H s) (r : Vals vs us) (h : sp vs H Q E) : wpAny (model X.prog X.w) X.A (call (.ref f) us) (EP X pins σ Q) X.xe s := by
  have n : (us ++ []).length = ps.length := by
    have n1 := F.many _ _ _ _ h
    rw [List.append_nil, ← r.length]
    exact n1
  have b := hb s us I.kIn n
  rw [List.append_nil] at b
  apply wpAny_call
  refine codeAny_mono (F.goes X.A X.stack s H ⟨us, []⟩ us vs Q E hG hr I.env0 b r h) ?_
  intro res s2 hq
  match res, hq with
  | .ok (.ret u), hq => exact I.after hq
  | .ok .next, hq => exact hq.elim
  | .ok .brk, hq => exact hq.elim
  | .ok .cont, hq => exact hq.elim
  | .error er, hq => exact hq.elim
theorem pe_callG (hG : X.A.guards = some []) (F : FG X.prog X.w X.K X.mg X.base k f fd ps sp) (hr : Room k X.A) (hg : Gl X x) (hm : X.mg x = some (.ref f)) (hk : PySem.W.keepIn X.K (.ref f) = true) (hb : Binds X.K fd ps []) (ha : PA X (e :: es) t)
    (hdb : (x == ("__debug__" : Str)) = false := by decide) (he : starEach (e :: es) X.env = (false, eval e X.env) :: starEach es X.env := by rfl)
    (hpl : (backTo pos (starEach es X.env)).any (·.1) = false := by rfl) : PE X (.Call (.Name x p) (e :: es) [] pos) (tCall sp [] E t) := by
  constructor
  intro pins s σ H Q I h
  apply wpAny_Call_Name_kw
  refine ld_glob I hg hm ?_ hdb
  refine PySem.W.callWith_K (h₀ := X.base) I.ok.mod.kin hk ?_ he hpl
  refine thn (ha.run pos pins s σ H _ I h) ?_
  rintro us s1 ⟨vs, H1, I1, r, q⟩
  rw [List.append_nil] at q
  exact ⟨I1.kIn, fg_run hG F hr hb I1 r q⟩
end

/-! ### a law's end -/
def scrH (a : Addr) (o : Obj) (xs : List V) : Hp := fun b => if b = a then some (.frz o (.lst xs)) else none
theorem scrH_at {a : Addr} {o : Obj} {xs : List V} : scrH a o xs a = some (.frz o (.lst xs)) := if_pos rfl
theorem scrH_some {a b : Addr} {o : Obj} {xs : List V} {u : HO} (h : scrH a o xs b = some u) : b = a ∧ u = .frz o (.lst xs) := by
  unfold scrH at h
  by_cases e : b = a
  · rw [if_pos e] at h
    exact ⟨e, (Option.some.inj h).symm⟩
  · rw [if_neg e] at h
    cases h
section
variable {P : Program} {w : World} {K : PySem.W.Frag} {mg mb : Str → Option Value} {k : Nat} {fa a : Addr} {fd : FuncData} {x : Str} {sp : Sp} {s₁ : Shared} {vs : List Value} {ns : List Int}
theorem fg_law1 (kin : K.In s₁.heap) (g1 : s₁.heap.Ns mainGlobals mg) (g2 : s₁.heap.Ns builtinsNs mb) (g3 : ∀ y : Str, y ≠ "__name__" → mb y = bootBuiltins y) (g4 : s₁.heap.NoLimit) (g5 : s₁.gens = #[])
    (at_ : s₁.heap.get? a = some { cls := .type "list", data := .seq vs.toArray }) (hr : Room k callerA)
    (F : ∀ base : Heap, K.In base → base.Ns mainGlobals mg → FG P w K mg base k fa fd [x] sp) (bind : ∀ (s : Shared) (u : Value), BindsTo s fd ⟨[u], []⟩ [(x, u)])
    (H : Hp) (only : ∀ b u, H b = some u → b = a ∧ ∃ xs, u = .frz { cls := .type "list", data := .seq vs.toArray } (.lst xs)) (ok : HOk P w H s₁.heap) (out : ∀ u, H a = some u → K.lookup a = none)
    (want : sp [.ref a] H (fun v _ => v = .bl true) E0) :
    codeAny (model P w) callerA (.call (.ref fa) ⟨[.ref a], []⟩) (fun r s' => r = .ok (.ret (.bool true)) ∧ OldK s₁.heap s'.heap ∧ s'.os = s₁.os ∧ AllBare s'.gens) s₁ := by
  have free_of : ∀ {b : Addr} {o : Obj}, s₁.heap.get? b = some o → (b ≠ a ∨ ∃ es ep, o.data = .dict es ep) → H b = none := by
    intro b o e d
    cases q : H b with
    | none => rfl
    | some u =>
      have z := (only b u q).1
      rcases d with d | ⟨es, ep, d⟩
      · exact absurd z d
      · rw [z, at_] at e
        cases e
        cases (show Data.seq vs.toArray _ = Data.dict es ep from d)
  have nsT : ∀ {b : Addr} {m : Str → Option Value}, s₁.heap.Ns b m → (hidT s₁.heap H).Ns b m := by
    rintro b m ⟨o, es, ep, e, d, r⟩
    exact ⟨o, es, ep, hidT_get e (free_of e (.inr ⟨es, ep, d⟩)), d, r⟩
  have kinT : K.In (hidT s₁.heap H) := by
    intro b o e
    refine hidT_get (kin b o e) ?_
    cases q : H b with
    | none => rfl
    | some u =>
      have z := (only b u q).1
      subst z
      rw [out u q] at e
      cases e
  obtain ⟨mc, l1, l2⟩ := g4
  have md : Mod K mg (hidT s₁.heap H) := { kin := kinT, glob := nsT g1, blt := ⟨mb, nsT g2, g3⟩, nolimit := ⟨mc, nsT l1, l2⟩ }
  have en : Env0 P w K mg (hidT s₁.heap H) callerA [] s₁ H :=
    { frames := rfl, mod := md, bs := fun b o e => of_hidT e, bsz := Nat.le_of_eq (hidT_size _ _), funs := trivial, frf := fun b hb => absurd (show b ∈ ([] : List Addr) from hb) (by simp), hok := ok, bare := .of_eq g5 }
  refine codeAny_mono ((F _ kinT (nsT g1)).goes callerA [] s₁ H ⟨[.ref a], []⟩ [.ref a] [.ref a] _ _ rfl hr en (bind s₁ (.ref a)) (.cons rfl .nil) want) ?_
  intro r s2 q
  match r, q with
  | .ok (.ret u), ⟨v, H2, c1, c2, c3, c4, c5, c6⟩ =>
    have c6' : v = .bl true := c6
    subst c6'
    have c5' : u = Value.bool true := c5
    subst c5'
    refine ⟨rfl, OldK.of_keep ?_, c1, c2⟩
    intro b o e
    cases z : H b with
    | none => exact c3.keep b o e z (fun y => absurd (show b ∈ ([] : List Addr) from y) (by simp)) (by simp)
    | some u =>
      obtain ⟨z1, xs, z2⟩ := only b u z
      subst z2
      have f1 := (ok b _ z).1
      have f2 := (c4 b _ (c3.frzs b _ _ z)).1
      rw [e] at f1
      cases f1
      exact f2
  | .ok .next, q => exact q.elim
  | .ok .brk, q => exact q.elim
  | .ok .cont, q => exact q.elim
  | .error er, q => exact q.elim
theorem fg_law (kin : K.In s₁.heap) (g1 : s₁.heap.Ns mainGlobals mg) (g2 : s₁.heap.Ns builtinsNs mb) (g3 : ∀ y : Str, y ≠ "__name__" → mb y = bootBuiltins y) (g4 : s₁.heap.NoLimit) (g5 : s₁.gens = #[])
    (at_ : s₁.heap.get? a = some { cls := .type "list", data := .seq vs.toArray }) (hi : IntsAre vs ns) (hl : ns.length ≤ sizeLine) (hr : Room k callerA)
    (F : ∀ base : Heap, K.In base → base.Ns mainGlobals mg → FG P w K mg base k fa fd [x] sp) (bind : ∀ (s : Shared) (u : Value), BindsTo s fd ⟨[u], []⟩ [(x, u)])
    (want : ∀ H : Hp, (∀ b u, H b = some u → ∃ o xs, u = .frz o (.lst xs)) → SqL K H a (ns.map V.int) → sp [.ref a] H (fun v _ => v = .bl true) E0) :
    codeAny (model P w) callerA (.call (.ref fa) ⟨[.ref a], []⟩) (fun r s' => r = .ok (.ret (.bool true)) ∧ OldK s₁.heap s'.heap ∧ s'.os = s₁.os ∧ AllBare s'.gens) s₁ := by
  have rv := vals_ints hi
  have szs : vs.toArray.size ≤ sizeLine := by
    rw [List.size_toArray, hi.length]
    exact hl
  cases hk : K.lookup a with
  | some o =>
    have e := kin a o hk
    rw [at_] at e
    cases e
    refine fg_law1 kin g1 g2 g3 g4 g5 at_ hr F bind (fun _ => none) (fun b u z => by cases z) (fun b u z => by cases (show (none : Option HO) = some u from z)) (fun u z => by cases z) ?_
    exact want _ (fun b u z => by cases z) (.inr ⟨_, vs.toArray, _, hk, rfl, rfl, rfl, szs, by simpa using rv⟩)
  | none =>
    refine fg_law1 kin g1 g2 g3 g4 g5 at_ hr F bind (scrH a { cls := .type "list", data := .seq vs.toArray } (ns.map V.int)) (fun b u z => ⟨(scrH_some z).1, _, (scrH_some z).2⟩) ?_ (fun u z => hk) ?_
    · intro b u z
      obtain ⟨z1, z2⟩ := scrH_some z
      subst z1 z2
      exact ⟨at_, by rw [List.length_map]; exact hl, vs, _, rv, at_⟩
    · exact want _ (fun b u z => ⟨_, _, (scrH_some z).2⟩) (.inl (.inr ⟨_, scrH_at⟩))
end
theorem fg_end {l : PySem.W.OpenLaw} {n k : Nat} {q : Program} {loose : List Str} {XP : (Str → Option Value) → Heap → Prop} {YP : World → Heap → Prop} {d : DefRec} {K : Params → PySem.W.Frag} {sp : World → Sp} {x : Str} (many : l.most = some n)
    (small : n ≤ sizeLine) (nodef : d.params.defaults = []) (hr : Room k callerA) (lay : ∀ (w : World) (h : Heap), YP w h → (K w.params).In h)
    (F : ∀ (w : World) (mg : Str → Option Value) (fa : Addr) (h : Heap), (K w.params).In h → h.Ns mainGlobals mg → mg d.name = some (.ref fa) → ∃ fd : FuncData,
      (∀ (s : Shared) (u : Value), BindsTo s fd ⟨[u], []⟩ [(x, u)]) ∧ ∀ base : Heap, (K w.params).In base → base.Ns mainGlobals mg → FG l.prog w (K w.params) mg base k fa fd [x] (sp w))
    (want : ∀ (w : World) (H : Hp) (a : Addr) (ns : List Int), ns.length ≤ n → (∀ b u, H b = some u → ∃ o xs, u = .frz o (.lst xs)) → SqL (K w.params) H a (ns.map V.int) → sp w [.ref a] H (fun v _ => v = .bl true) E0) :
    PySem.W.WalkO q loose XP YP l.row.toRowW d [] (fun f vs => PySem.call f vs) := by
  refine Att.attach_call many nodef ?_
  intro w s₀ s₁ mg mb fa o pm cd doc a vs ns G Y ho hd hcd hmg hobj hints hlen hg
  obtain ⟨fd, hb, hF⟩ := F w mg fa _ (lay w _ Y) G.T.g hmg
  exact fg_law (lay w _ Y) G.T.g G.T.b G.T.builtins G.T.nolimit hg hobj hints (Nat.le_trans hlen small) hr hF hb fun H hO hS => want w H a ns hlen hO hS
end PD

/-! PD3: promises over data, calls, statements, loops, comprehensions -/
namespace PD
open PySem PySem.Spec PyProof.Rows L2 Evl

/-! ### promises -/
def spP (F : List D → (D → Prop) → Prop) : Sp := fun vs H Q _ => ∃ G ds, Ex G H ∧ RA G vs ds ∧ F ds fun d => ∀ v G' H', Ex H H' → Ex G' H' → Ex G G' → (∀ a o, H a = some o → G a = none → G' a = none) → R G' v d → Q v H'
def spN (F : List D → (List D → Prop) → Prop) : Sp := fun vs H Q _ => ∃ G ds, Ex G H ∧ RA G vs ds ∧ F ds fun xs => ∀ p us G' H', Ex H H' → Ex G' H' → Ex G G' → (∀ a o, H a = some o → G a = none → G' a = none) → H p = none → G' p = none →
  H' p = some (.lst us) → RA G' us xs → Q (.ref p) H'
def spO (F : List D → List D → (D → List D → Prop) → Prop) : Sp := fun vs H Q _ => ∃ G p vs' us pl ds, vs = .ref p :: vs' ∧ Ex G H ∧ G p = none ∧ H p = some (.lst us) ∧ RA G us pl ∧ RA G vs' ds ∧ F pl ds fun d pl' =>
  ∀ v G' H' us', (∀ a o, a ≠ p → H a = some o → H' a = some o) → Ex G' H' → Ex G G' → (∀ a o, H a = some o → G a = none → G' a = none) → H' p = some (.lst us') → RA G' us' pl' → R G' v d → Q v H'

section
variable {c : Cn} {K : PySem.W.Frag} {ds : DS} {pl : List D} {Φ : W → List D → Prop} {ta tb te : TE} {tr : TA} {G H : Hp} {σ : L2.St}
theorem HS.ext (h : HS c G σ H ds pl) {G' H' : Hp} (e : Ex H H') (s : Ex G' H') (g : Ex G G') (n : ∀ a o, H a = some o → G a = none → G' a = none) : HS c G' σ H' ds pl := by
  refine ⟨s, fun a q => ?_, fun a q => ?_, fun a o q => n a o (h.pin a o q) (h.gn a o q), fun a o q1 q2 => e _ _ (h.keep a o q1 q2), fun p z => ?_, fun a o q => e _ _ (h.pin a o q), fun a q => ?_, h.len, fun i w q => ?_, h.own⟩
  · obtain ⟨o, z⟩ := h.hid a q
    exact n a o z (h.gh a q)
  · obtain ⟨_, _, vs, z, _⟩ := h.pl a q
    exact n a _ z (h.gq a q)
  · obtain ⟨b1, b2, vs, b3, b4⟩ := h.pl p z
    exact ⟨b1, b2, vs, e _ _ b3, b4.up g⟩
  · obtain ⟨o, z⟩ := h.hid a q
    exact ⟨o, e _ _ z⟩
  · obtain ⟨v, e1, e2⟩ := h.slots i w q
    exact ⟨v, e1, e2.up g fun q vs a1 a2 a3 a4 a5 a6 => ⟨e _ _ a6, n _ _ a6 a1⟩⟩
theorem we_call {F : List D → (D → Prop) → Prop} {E : XK} (ha : WA c tr ds pl fun xs p1 => F xs fun d => Φ (.d d) p1) (mono : ∀ xs k k', F xs k → (∀ d, k d → k' d) → F xs k') : WE c (tCall (spP F) [] E tr) ds pl Φ := fun G σ H hs Q q =>
  ha G σ H hs _ fun vs G1 H1 xs p1 h1 e1 f1 g1 => by
    rw [List.append_nil]
    exact ⟨G1, xs, h1.sub, f1, mono xs _ _ g1 fun d hd v G' H' a1 a2 a3 a4 a5 => q v G' H' (.d d) p1 (h1.ext a1 a2 a3 a4) (e1.trans a3) a5 hd⟩
theorem we_callN {F : List D → (List D → Prop) → Prop} {E : XK} (ha : WA c tr ds pl fun xs p1 => F xs fun d => Φ (.d (.list d)) p1) (mono : ∀ xs k k', F xs k → (∀ d, k d → k' d) → F xs k') : WE c (tCall (spN F) [] E tr) ds pl Φ := fun G σ H hs Q q =>
  ha G σ H hs _ fun vs G1 H1 xs p1 h1 e1 f1 g1 => by
    rw [List.append_nil]
    refine ⟨G1, xs, h1.sub, f1, mono xs _ _ g1 fun d hd p us G' H' a1 a2 a3 a4 a5 a6 a7 a8 => ?_⟩
    have s2 : Ex G' (upd G' p (.lst us)) := Ex.new a6
    refine q (.ref p) (upd G' p (.lst us)) H' (.d (.list d)) p1 (h1.ext a1 (fun a o z => ?_) (a3.trans s2) fun a o z1 z2 => ?_) (e1.trans (a3.trans s2)) (.lst upd_same (a8.up s2)) hd
    · by_cases z' : a = p
      · subst z'; rw [upd_same] at z; cases z; exact a7
      · rw [upd_ne z'] at z; exact a2 _ _ z
    · rw [upd_ne (fun z' : a = p => by rw [z', a5] at z1; cases z1)]
      exact a4 _ _ z1 z2
theorem we_callO {F : List D → List D → (D → List D → Prop) → Prop} {E : XK} {i : Nat} {p : Addr} (hi : ds[i]? = some (some (.v (.ref p)))) (hp : c.pool = some p)
    (ha : WA c tr ds pl fun xs p1 => F p1 xs fun d p2 => Φ (.d d) p2) (mono : ∀ xs ys k k', F xs ys k → (∀ d p, k d p → k' d p) → F xs ys k') : WE c (tCall (spO F) [] E (tCons (tVar i) tr)) ds pl Φ := fun G σ H hs Q q => by
  obtain ⟨v, e1, e2⟩ := hs.slots i _ hi
  have e2' : v = .ref p := e2
  subst e2'
  refine ⟨_, e1, ha G σ H hs _ fun vs G1 H1 xs p1 h1 e1 f1 g1 => ?_⟩
  show spO F ((V.ref p :: vs) ++ []) H1 Q E
  rw [List.append_nil]
  obtain ⟨b1, b2, us, b3, b4⟩ := h1.pl p hp
  refine ⟨G1, p, vs, us, p1, xs, rfl, h1.sub, h1.gq p hp, b3, b4, f1, mono _ _ _ _ g1 fun d p2 hd v G' H' us' a1 a2 a3 a4 a5 a6 a7 => ?_⟩
  refine q v G' H' (.d d) p2 ?_ (e1.trans a3) a7 hd
  refine ⟨a2, fun a z => ?_, fun a z => ?_, fun a o z => a4 _ _ (h1.pin a o z) (h1.gn a o z), fun a o q1 q2 => a1 _ _ (fun z => q1 (z ▸ hp)) (h1.keep a o q1 q2), fun p' z => ?_, fun a o z => a1 _ _ (fun z' => by rw [z', b2] at z; cases z) (h1.pin a o z), fun a z => ?_, h1.len, fun i w z => ?_, h1.own⟩
  · obtain ⟨o, z'⟩ := h1.hid a z
    exact a4 _ _ z' (h1.gh a z)
  · obtain ⟨_, _, us0, z', _⟩ := h1.pl a z
    exact a4 _ _ z' (h1.gq a z)
  · have e : p' = p := by rw [hp] at z; exact (Option.some.inj z).symm
    subst e
    exact ⟨b1, b2, us', a5, a6⟩
  · obtain ⟨o, z'⟩ := h1.hid a z
    exact ⟨o, a1 _ _ (fun e => b1 (e ▸ z)) z'⟩
  · obtain ⟨v, c1, c2⟩ := h1.slots i w z
    exact ⟨v, c1, c2.up a3 fun q vs d1 d2 d3 d4 d5 d6 => ⟨a1 _ _ (fun e => d4 (e ▸ hp)) d6, a4 _ _ d6 d1⟩⟩
theorem we_ixP {i : Nat} {p : Addr} (hi : ds[i]? = some (some (.v (.ref p)))) (hp : c.pool = some p) (hb : WE c tb ds pl (isI fun k p1 => ∃ e, atI p1 k = some e ∧ Φ (.d e) p1)) : WE c (tOp (rIx K) (tVar i) tb) ds pl Φ := fun G σ H hs Q q => by
  obtain ⟨v, e1, e2⟩ := hs.slots i _ hi
  have e2' : v = .ref p := e2
  subst e2'
  refine ⟨_, e1, hb G σ H hs _ fun u G1 H1 w p1 h1 e1 f1 g1 => ?_⟩
  match w, f1, g1 with
  | .d (.int k), f1, ⟨e, g1, g2⟩ =>
    cases f1
    obtain ⟨b1, b2, us, b3, b4⟩ := h1.pl p hp
    obtain ⟨z, z1, z2⟩ := atI_RA b4 g1
    exact .inl ⟨p, us, k, z, rfl, rfl, SqL.of b3, z1, q z G1 H1 (.d e) p1 h1 e1 z2 g2⟩

/-! ### statements -/
structure EE where
  nx : DS → List D → Prop
  rt : W → List D → Prop
  bk : DS → List D → Prop
  ct : DS → List D → Prop
structure Fits (c : Cn) (G : Hp) (D' : Ends) (E : EE) : Prop where
  nx : ∀ G' σ' H' ds' pl', HS c G' σ' H' ds' pl' → Ex G G' → E.nx ds' pl' → D'.nx σ' H'
  rt : ∀ v G' σ' H' ds' w pl', HS c G' σ' H' ds' pl' → Ex G G' → VW G' H' c v w → E.rt w pl' → D'.rt v H'
  bk : ∀ G' σ' H' ds' pl', HS c G' σ' H' ds' pl' → Ex G G' → E.bk ds' pl' → D'.bk σ' H'
  ct : ∀ G' σ' H' ds' pl', HS c G' σ' H' ds' pl' → Ex G G' → E.ct ds' pl' → D'.ct σ' H'
theorem Fits.up {D' : Ends} {E : EE} {G' : Hp} (f : Fits c G D' E) (e : Ex G G') : Fits c G' D' E :=
  ⟨fun a b d x y h e' => f.nx a b d x y h (e.trans e'), fun v a b d x w y h e' => f.rt v a b d x w y h (e.trans e'), fun a b d x y h e' => f.bk a b d x y h (e.trans e'), fun a b d x y h e' => f.ct a b d x y h (e.trans e')⟩
def WS (c : Cn) (ts : TS) (ds : DS) (pl : List D) (E : EE) : Prop := ∀ G σ H, HS c G σ H ds pl → ∀ D' : Ends, Fits c G D' E → ts D' σ H
variable {t u : TS} {E : EE}
theorem ws_next (h : E.nx ds pl) : WS c tNext ds pl E := fun G σ H hs D' f => f.nx G σ H ds pl hs (Ex.refl _) h
theorem ws_seq (h : WS c t ds pl { E with nx := fun ds' pl' => WS c u ds' pl' E }) : WS c (tSeq t u) ds pl E := fun G σ H hs D' f =>
  h G σ H hs { D' with nx := u D' } ⟨fun G' σ' H' ds' pl' h' e w => w G' σ' H' h' D' (f.up e), f.rt, f.bk, f.ct⟩
theorem ws_mono {E' : EE} (h : WS c t ds pl E') (h1 : ∀ ds' pl', E'.nx ds' pl' → E.nx ds' pl') (h2 : ∀ w pl', E'.rt w pl' → E.rt w pl') (h3 : ∀ ds' pl', E'.bk ds' pl' → E.bk ds' pl') (h4 : ∀ ds' pl', E'.ct ds' pl' → E.ct ds' pl') : WS c t ds pl E := fun G σ H hs D' f =>
  h G σ H hs D' ⟨fun a b d x y h e w => f.nx a b d x y h e (h1 _ _ w), fun v a b d x w y h e q z => f.rt v a b d x w y h e q (h2 _ _ z), fun a b d x y h e w => f.bk a b d x y h e (h3 _ _ w), fun a b d x y h e w => f.ct a b d x y h e (h4 _ _ w)⟩
theorem ws_ret (h : WE c te ds pl E.rt) : WS c (tRet te) ds pl E := fun G σ H hs D' f => h G σ H hs D'.rt fun v G' H' w pl' h' e q z => f.rt v G' σ H' ds w pl' h' e q z
theorem ws_drop (h : WE c te ds pl fun _ p1 => E.nx ds p1) : WS c (tDrop te) ds pl E := fun G σ H hs D' f => h G σ H hs _ fun v G' H' w pl' h' e q z => f.nx G' σ H' ds pl' h' e z
theorem ws_if {tt : TT} (h : WT c tt ds pl fun b p1 => if b = true then WS c t ds p1 E else WS c u ds p1 E) : WS c (tIfS tt t u) ds pl E := fun G σ H hs D' f => h G σ H hs _ fun b G1 H1 p1 h1 e1 g1 => by
  cases b with
  | true => exact (show WS c t ds p1 E from g1) G1 σ H1 h1 D' (f.up e1)
  | false => exact (show WS c u ds p1 E from g1) G1 σ H1 h1 D' (f.up e1)
theorem HS.set (h : HS c G σ H ds pl) {i : Nat} {v : V} {w : W} (hv : VW G H c v w) (hn : ∀ xs, w = .o xs → ∀ (j : Nat) (ys : List D), ds[j]? = some (some (W.o ys)) → σ[j]? ≠ some (some v)) : HS c G (σ.set i (some v)) H (ds.set i (some w)) pl := by
  refine ⟨h.sub, h.gh, h.gq, h.gn, h.keep, h.pl, h.pin, h.hid, by rw [List.length_set, List.length_set, h.len], fun j w' q => ?_, fun j k p xs ys q1 q2 q3 q4 => ?_⟩
  · by_cases e : i = j
    · subst e
      have hj : i < ds.length := by
        have := (List.getElem?_eq_some_iff.mp q).1
        rw [List.length_set] at this
        exact this
      rw [List.getElem?_set_self hj] at q
      cases q
      exact ⟨v, List.getElem?_set_self (by rw [h.len]; exact hj), hv⟩
    · rw [List.getElem?_set_ne e] at q
      obtain ⟨v', e1, e2⟩ := h.slots j w' q
      exact ⟨v', by rw [List.getElem?_set_ne e]; exact e1, e2⟩
  · have lt : ∀ {m : Nat} {z : Option W}, (ds.set i (some w))[m]? = some z → m < ds.length := fun q => by
      have := (List.getElem?_eq_some_iff.mp q).1
      rw [List.length_set] at this
      exact this
    by_cases e1 : i = j
    · by_cases e2 : i = k
      · exact e1.symm.trans e2
      · subst e1
        rw [List.getElem?_set_self (lt q1)] at q1
        rw [List.getElem?_set_self (by rw [h.len]; exact lt q2 |> fun _ => (by
          have := (List.getElem?_eq_some_iff.mp q3).1
          rw [List.length_set, h.len] at this
          exact this))] at q3
        rw [List.getElem?_set_ne e2] at q2 q4
        cases q1
        cases q3
        exact absurd q4 (hn xs rfl k ys q2)
    · by_cases e2 : i = k
      · subst e2
        rw [List.getElem?_set_self (lt q2)] at q2
        rw [List.getElem?_set_self (by
          have := (List.getElem?_eq_some_iff.mp q4).1
          rw [List.length_set] at this
          exact this)] at q4
        rw [List.getElem?_set_ne e1] at q1 q3
        cases q2
        cases q4
        exact absurd q3 (hn ys rfl j xs q1)
      · rw [List.getElem?_set_ne e1] at q1 q3
        rw [List.getElem?_set_ne e2] at q2 q4
        exact h.own j k p xs ys q1 q2 q3 q4
abbrev notO (k : W → List D → Prop) : W → List D → Prop := fun w pl => match w with
  | .o _ => False
  | w => k w pl
theorem ws_set {i : Nat} (h : WE c te ds pl (isD fun x p1 => E.nx (ds.set i (some (.d x))) p1)) : WS c (tAsg te (gName i)) ds pl E := fun G σ H hs D' f => h G σ H hs _ fun v G' H' w pl' h' e q z => by
  match w, q, z with
  | .d x, q, z => exact f.nx G' _ H' _ pl' (h'.set q fun xs z => by cases z) e z
theorem ws_setO {i : Nat} (h : WA c tr ds pl fun xs p1 => xs.length ≤ sizeLine ∧ E.nx (ds.set i (some (.o xs))) p1) : WS c (tAsg (tLst tr) (gName i)) ds pl E := fun G σ H hs D' f => h G σ H hs _ fun vs G1 H1 xs p1 h1 e1 f1 g1 => ⟨by rw [f1.len]; exact g1.1, fun p hp => by
    obtain ⟨n1, n2, n3, n4, n5⟩ := h1.none_of hp
    refine f.nx G1 _ _ _ p1 ((h1.newH hp).set (w := .o xs) ⟨p, vs, rfl, upd_same, f1, n1, n5, n3, n4, n2⟩ fun xs _ j ys q1 q2 => ?_) e1 g1.2
    obtain ⟨v, e2, p', us, rfl, b1, _⟩ := h1.slots j _ q1
    rw [e2] at q2
    have e3 : p' = p := V.ref.inj (Option.some.inj (Option.some.inj q2))
    rw [e3, hp] at b1
    cases b1⟩
theorem HS.chg (h : HS c G σ H ds pl) {i : Nat} {xs xs' : List D} {p : Addr} {us : List V} (hi : ds[i]? = some (some (.o xs))) (hs : σ[i]? = some (some (.ref p))) (hr : RA G us xs') : HS c G σ (upd H p (.lst us)) (ds.set i (some (.o xs'))) pl := by
  obtain ⟨v, e1, p', vs, rfl, b1, b2, b3, b4, b5, b6, b7⟩ := h.slots i _ hi
  have ep : p' = p := by rw [hs] at e1; exact (V.ref.inj (Option.some.inj (Option.some.inj e1))).symm
  subst ep
  have ne : ∀ a, a ≠ p' → (upd H p' (.lst us)) a = H a := fun a q => upd_ne q
  have hlt : i < ds.length := (List.getElem?_eq_some_iff.mp hi).1
  refine ⟨fun a o q => ?_, h.gh, h.gq, h.gn, fun a o q1 q2 => ?_, fun q z => ?_, fun a o q => ?_, fun a q => ?_, by rw [List.length_set]; exact h.len, fun j w q => ?_, fun j k p xs ys q1 q2 q3 q4 => ?_⟩
  · rw [ne a (fun e => by rw [e, b3] at q; cases q)]; exact h.sub a o q
  · rw [ne a (fun e => by rw [e, b4] at q2; cases q2)]; exact h.keep a o q1 q2
  · obtain ⟨c1, c2, vs', c3, c4⟩ := h.pl q z
    exact ⟨c1, c2, vs', by rw [ne q (fun e => b6 (e ▸ z))]; exact c3, c4⟩
  · rw [ne a (fun e => by rw [e, b5] at q; cases q)]; exact h.pin a o q
  · rw [ne a (fun e => b7 (e ▸ q))]; exact h.hid a q
  · by_cases e : i = j
    · subst e
      rw [List.getElem?_set_self hlt] at q
      cases q
      exact ⟨_, hs, p', us, rfl, upd_same, hr, b3, b4, b5, b6, b7⟩
    · rw [List.getElem?_set_ne e] at q
      obtain ⟨v, e1, e2⟩ := h.slots j w q
      refine ⟨v, e1, ?_⟩
      cases w with
      | d x => exact e2
      | v x => exact e2
      | o ys =>
        obtain ⟨q', us', rfl, d1, d2, d3⟩ := e2
        refine ⟨q', us', rfl, ?_, d2, d3⟩
        rw [ne q' (fun z => e (h.own i j p' xs ys hi q hs (by rw [z] at e1; exact e1)))]
        exact d1
  · have key : ∀ {m : Nat} {zs : List D}, (ds.set i (some (.o xs')))[m]? = some (some (.o zs)) → ∃ zs', ds[m]? = some (some (.o zs')) := fun {m zs} q => by
      by_cases e : i = m
      · subst e; exact ⟨_, hi⟩
      · rw [List.getElem?_set_ne e] at q; exact ⟨zs, q⟩
    obtain ⟨y1, r1⟩ := key q1
    obtain ⟨y2, r2⟩ := key q2
    exact h.own j k p y1 y2 r1 r2 q3 q4
theorem ws_app {i : Nat} {xs : List D} (hi : ds[i]? = some (some (.o xs))) (h : WE c te ds pl (isD fun x p1 => xs.length < sizeLine ∧ E.nx (ds.set i (some (.o (xs ++ [x])))) p1)) :
    WS c (tDrop (tBM K "list" rAppend (tVar i) (tCons te tNil))) ds pl E := fun G σ H hs D' f => by
  obtain ⟨v, e1, p, vs, rfl, b1, b2⟩ := hs.slots i _ hi
  refine ⟨_, e1, Or.inl ⟨rfl, _, SqL.of b1⟩, ?_⟩
  refine h G σ H hs _ fun v G1 H1 w p1 h1 e2 f1 g1 => ?_
  match w, f1, g1 with
  | .d x, f1, ⟨g1, g2⟩ =>
    obtain ⟨v', e1', p', vs', rfl, c1, c2, _⟩ := h1.slots i _ hi
    have ep : p' = p := by rw [e1] at e1'; exact (V.ref.inj (Option.some.inj (Option.some.inj e1'))).symm
    subst ep
    refine ⟨p', vs', v, rfl, rfl, c1, by rw [c2.len]; exact g1, ?_⟩
    exact f.nx G1 σ _ _ p1 (h1.chg hi e1 (c2.app (.cons f1 .nil))) e2 g2
theorem ws_setIx {i : Nat} {xs : List D} {ti : TE} (hi : ds[i]? = some (some (.o xs))) (h : WE c te ds pl (isD fun x p1 => WE c ti ds p1 (isI fun k p2 => ∃ j, ixN xs.length k = some j ∧ E.nx (ds.set i (some (.o (xs.set j x)))) p2))) :
    WS c (tAsg te (gSub (tVar i) ti rSetL)) ds pl E := fun G σ H hs D' f => by
  refine h G σ H hs _ fun v G1 H1 w p1 h1 e1 f1 g1 => ?_
  match w, f1, g1 with
  | .d x, f1, g1 =>
    obtain ⟨v0, q1, p, vs, rfl, b1, b2, _⟩ := h1.slots i _ hi
    refine ⟨_, q1, ?_⟩
    refine g1 G1 σ H1 h1 _ fun u G2 H2 w2 p2 h2 e2 f2 g2 => ?_
    match w2, f2, g2 with
    | .d (.int k), f2, ⟨j, g2, g3⟩ =>
      cases f2
      obtain ⟨v', q1', p', vs', rfl, c1, c2, _⟩ := h2.slots i _ hi
      have ep : p' = p := by rw [q1] at q1'; exact (V.ref.inj (Option.some.inj (Option.some.inj q1'))).symm
      subst ep
      refine ⟨p', vs', k, j, rfl, rfl, c1, by rw [c2.len]; exact g2, ?_⟩
      exact f.nx G2 σ _ _ p2 (h2.chg hi q1 (c2.set (R.up f1 e2) j)) (e1.trans e2) g3
theorem ws_setP {i : Nat} {p : Addr} {ti : TE} (hi : ds[i]? = some (some (.v (.ref p)))) (hp : c.pool = some p) (h : WE c te ds pl (isD fun x p1 => WE c ti ds p1 (isI fun k p2 => ∃ j, ixN p2.length k = some j ∧ E.nx ds (p2.set j x)))) :
    WS c (tAsg te (gSub (tVar i) ti rSetL)) ds pl E := fun G σ H hs D' f => by
  refine h G σ H hs _ fun v G1 H1 w p1 h1 e1 f1 g1 => ?_
  match w, f1, g1 with
  | .d x, f1, g1 =>
    obtain ⟨v0, q1, q2⟩ := h1.slots i _ hi
    have q2' : v0 = .ref p := q2
    subst q2'
    refine ⟨_, q1, ?_⟩
    refine g1 G1 σ H1 h1 _ fun u G2 H2 w2 p2 h2 e2 f2 g2 => ?_
    match w2, f2, g2 with
    | .d (.int k), f2, ⟨j, g2, g3⟩ =>
      cases f2
      obtain ⟨_, _, vs', c1, c2⟩ := h2.pl p hp
      refine ⟨p, vs', k, j, rfl, rfl, c1, by rw [c2.len]; exact g2, ?_⟩
      exact f.nx G2 σ _ _ _ (h2.setPool hp (c2.set (R.up f1 e2) j)) (e1.trans e2) g3
theorem ws_frz {i : Nat} {xs : List D} (hi : ds[i]? = some (some (.o xs))) (h : WS c t (ds.set i (some (.d (.list xs)))) pl E) : WS c t ds pl E := fun G σ H hs D' f => by
  obtain ⟨v, e1, p, vs, rfl, b1, b2, b3, b4, b5, b6, b7⟩ := hs.slots i _ hi
  have s2 : Ex G (upd G p (.lst vs)) := Ex.new b3
  have hlt : i < ds.length := (List.getElem?_eq_some_iff.mp hi).1
  refine h (upd G p (.lst vs)) σ H ⟨fun a o q => ?_, fun a q => ?_, fun a q => ?_, fun a o q => ?_, hs.keep, fun q z => ?_, hs.pin, hs.hid, by rw [List.length_set]; exact hs.len, fun j w q => ?_, fun j k p' xs' ys q1 q2 q3 q4 => ?_⟩ D' (f.up s2)
  · by_cases z : a = p
    · subst z; rw [upd_same] at q; cases q; exact b1
    · rw [upd_ne z] at q; exact hs.sub a o q
  · rw [upd_ne (fun z : a = p => b7 (z ▸ q))]; exact hs.gh a q
  · rw [upd_ne (fun z : a = p => b6 (z ▸ q))]; exact hs.gq a q
  · rw [upd_ne (fun z : a = p => by rw [z, b5] at q; cases q)]; exact hs.gn a o q
  · obtain ⟨c1, c2, vs', c3, c4⟩ := hs.pl q z
    exact ⟨c1, c2, vs', c3, c4.up s2⟩
  · by_cases e : i = j
    · subst e
      rw [List.getElem?_set_self hlt] at q
      cases q
      exact ⟨_, e1, R.lst upd_same (b2.up s2)⟩
    · rw [List.getElem?_set_ne e] at q
      obtain ⟨v, d1, d2⟩ := hs.slots j w q
      refine ⟨v, d1, ?_⟩
      cases w with
      | d x => exact R.up d2 s2
      | v x => exact d2
      | o ys =>
        obtain ⟨q', us', rfl, k1, k2, k3, k4⟩ := d2
        refine ⟨q', us', rfl, k1, k2.up s2, ?_, k4⟩
        rw [upd_ne (fun z : q' = p => e (hs.own i j p xs ys hi q e1 (by rw [z] at d1; exact d1)))]
        exact k3
  · have key : ∀ {m : Nat} {zs : List D}, (ds.set i (some (.d (.list xs))))[m]? = some (some (.o zs)) → ds[m]? = some (some (.o zs)) := fun {m zs} q => by
      by_cases e : i = m
      · subst e; rw [List.getElem?_set_self hlt] at q; cases q
      · rw [List.getElem?_set_ne e] at q; exact q
    exact hs.own j k p' xs' ys (key q1) (key q2) q3 q4
theorem ws_retO {i : Nat} {xs : List D} (hi : ds[i]? = some (some (.o xs))) (h : E.rt (.d (.list xs)) pl) : WS c (tRet (tVar i)) ds pl E :=
  ws_frz hi (ws_ret (we_var (w := .d (.list xs)) (List.getElem?_set_self (List.getElem?_eq_some_iff.mp hi).1) h))
theorem ws_unp {i j : Nat} (h : WE c te ds pl (isD fun d p1 => ∃ x y, d = .tuple [x, y] ∧ E.nx ((ds.set i (some (.d x))).set j (some (.d y))) p1)) : WS c (tAsg te (gTup K 2 (gCons (gName i) (gCons (gName j) gNil)))) ds pl E := fun G σ H hs D' f =>
  h G σ H hs _ fun v G1 H1 w p1 h1 e1 f1 g1 => by
    match w, f1, g1 with
    | .d d, f1, ⟨x, y, ed, g1⟩ =>
      subst ed
      cases f1 with
      | tup a b =>
        cases b with
        | cons r1 b =>
          cases b with
          | cons r2 b =>
            cases b
            refine ⟨_, _, rfl, SqT.of (h1.sub _ _ a), rfl, _, _, rfl, _, _, rfl, rfl, ?_⟩
            exact f.nx G1 _ H1 _ p1 ((h1.set (w := .d x) r1 fun xs z => by cases z).set (w := .d y) r2 fun xs z => by cases z) e1 g1
theorem ws_par {i j : Nat} (h : WA c tr ds pl fun xs p1 => ∃ x y, xs = [x, y] ∧ E.nx ((ds.set i (some (.d x))).set j (some (.d y))) p1) : WS c (tPar i j tr) ds pl E := fun G σ H hs D' f =>
  h G σ H hs _ fun vs G1 H1 xs p1 h1 e1 f1 ⟨x, y, e, g1⟩ => by
    subst e
    cases f1 with
    | cons r1 b =>
      cases b with
      | cons r2 b =>
        cases b
        exact ⟨_, _, rfl, f.nx G1 _ H1 _ p1 ((h1.set (w := .d x) r1 fun xs z => by cases z).set (w := .d y) r2 fun xs z => by cases z) e1 g1⟩

/-! ### loops -/
theorem ws_forL {j : Nat} {tl : TE} (I : Nat → DS → List D → Prop) (xs : List D) (h : WE c tl ds pl (isD fun d p1 => d = .list xs ∧ I 0 ds p1))
    (hs : ∀ i x ds' pl', xs[i]? = some x → I i ds' pl' → WS c t (ds'.set j (some (.d x))) pl' { nx := I (i + 1), ct := I (i + 1), bk := E.nx, rt := E.rt }) (hd : ∀ ds' pl', I xs.length ds' pl' → E.nx ds' pl') :
    WS c (tFor (iList K tl) (gName j) t) ds pl E := fun G σ H h0 D' f => h G σ H h0 _ fun v G1 H1 w p1 h1 e1 f1 g1 => by
  match w, f1, g1 with
  | .d d, f1, ⟨ed, g1⟩ =>
    subst ed
    cases f1 with
    | @lst a vs _ a1 b1 =>
    refine ⟨a, rfl, ⟨vs, SqL.of (h1.sub _ _ a1)⟩, for_list (K := K) (a := a) (xs := vs) (fun i σ' H' => ∃ G' ds' pl', HS c G' σ' H' ds' pl' ∧ Ex G1 G' ∧ I i ds' pl') ⟨G1, ds, p1, h1, Ex.refl _, g1⟩ ?_ ?_ ?_⟩
    · rintro i σ' H' _ ⟨G', ds', pl', h2, e2, _⟩
      exact SqL.of (h2.sub _ _ (e2 _ _ a1))
    · rintro i x σ' H' hx ⟨G', ds', pl', h2, e2, g2⟩
      obtain ⟨d, hd1, hd2⟩ := b1.get' hx
      refine hs i d ds' pl' hd1 g2 G' _ H' (h2.set (w := .d d) (R.up hd2 e2) fun xs z => by cases z) _ ⟨?_, ?_, ?_, ?_⟩
      · exact fun G3 σ3 H3 ds3 pl3 h3 e3 g3 => ⟨G3, ds3, pl3, h3, e2.trans e3, g3⟩
      · exact fun v G3 σ3 H3 ds3 w3 pl3 h3 e3 q3 g3 => f.rt v G3 σ3 H3 ds3 w3 pl3 h3 ((e1.trans e2).trans e3) q3 g3
      · exact fun G3 σ3 H3 ds3 pl3 h3 e3 g3 => f.nx G3 σ3 H3 ds3 pl3 h3 ((e1.trans e2).trans e3) g3
      · exact fun G3 σ3 H3 ds3 pl3 h3 e3 g3 => ⟨G3, ds3, pl3, h3, e2.trans e3, g3⟩
    · rintro σ' H' ⟨G', ds', pl', h2, e2, g2⟩
      rw [b1.len] at g2
      exact f.nx G' σ' H' ds' pl' h2 (e1.trans e2) (hd _ _ g2)
theorem for_rng {j : Nat} {G1 H1 : Hp} {p1 : List D} {D' : Ends} {lo : Int} {n : Nat} (I : Nat → DS → List D → Prop) (h1 : HS c G1 σ H1 ds p1) (f : Fits c G1 D' E) (g1 : I 0 ds p1)
    (hs : ∀ (i : Nat) ds' pl', i < n → I i ds' pl' → WS c t (ds'.set j (some (.d (.int (lo + i))))) pl' { nx := I (i + 1), ct := I (i + 1), bk := E.nx, rt := E.rt }) (hd : ∀ ds' pl', I n ds' pl' → E.nx ds' pl') :
    ∃ W : Nat → Nat → L2.St → Hp → Prop, (∃ m, W 0 m σ H1) ∧ ∀ i m σ H, W i m σ H → ((Itr lo n).stop i H ∧ D'.nx σ H) ∨ ((Itr lo n).go i H ∧ ∃ N : L2.St → Hp → Prop, (∀ σ' H', N σ' H' → ∃ m', m' < m ∧ W (i + 1) m' σ' H') ∧
      ∀ x H', (Itr lo n).yld i H x H' → gName j x σ H' fun σ2 H2 => t { D' with nx := N, ct := N, bk := D'.nx } σ2 H2) := by
  refine for_range (lo := lo) (n := n) (g := gName j) (fun i σ' H' => ∃ G' ds' pl', HS c G' σ' H' ds' pl' ∧ Ex G1 G' ∧ I i ds' pl') ⟨G1, ds, p1, h1, Ex.refl _, g1⟩ ?_ ?_
  · rintro i σ' H' hx ⟨G', ds', pl', h2, e2, g2⟩
    refine hs i ds' pl' hx g2 G' _ H' (h2.set (w := .d (.int (lo + i))) (R.int _) fun xs z => by cases z) _ ⟨?_, ?_, ?_, ?_⟩
    · exact fun G3 σ3 H3 ds3 pl3 h3 e3 g3 => ⟨G3, ds3, pl3, h3, e2.trans e3, g3⟩
    · exact fun v G3 σ3 H3 ds3 w3 pl3 h3 e3 q3 g3 => f.rt v G3 σ3 H3 ds3 w3 pl3 h3 (e2.trans e3) q3 g3
    · exact fun G3 σ3 H3 ds3 pl3 h3 e3 g3 => f.nx G3 σ3 H3 ds3 pl3 h3 (e2.trans e3) g3
    · exact fun G3 σ3 H3 ds3 pl3 h3 e3 g3 => ⟨G3, ds3, pl3, h3, e2.trans e3, g3⟩
  · rintro σ' H' ⟨G', ds', pl', h2, e2, g2⟩
    exact f.nx G' σ' H' ds' pl' h2 e2 (hd _ _ g2)
theorem ws_forR1 {j : Nat} (I : Nat → DS → List D → Prop) (n : Nat) (h : WA c tr ds pl fun xs p1 => ∃ k : Int, xs = [.int k] ∧ k.toNat = n ∧ -(2 ^ 62) ≤ k ∧ k < 2 ^ 62 ∧ I 0 ds p1)
    (hs : ∀ (i : Nat) ds' pl', i < n → I i ds' pl' → WS c t (ds'.set j (some (.d (.int i)))) pl' { nx := I (i + 1), ct := I (i + 1), bk := E.nx, rt := E.rt }) (hd : ∀ ds' pl', I n ds' pl' → E.nx ds' pl') :
    WS c (tFor (iRng1 tr) (gName j) t) ds pl E := fun G σ H h0 D' f => h G σ H h0 _ fun vs G1 H1 xs p1 h1 e1 f1 ⟨k, e, en, b1, b2, g1⟩ => by
  subst e en
  cases f1 with
  | cons r1 b =>
    cases b
    cases r1
    refine ⟨k, rfl, b1, b2, for_rng I h1 (f.up e1) g1 (fun i ds' pl' hi g => ?_) hd⟩
    rw [Int.zero_add]
    exact hs i ds' pl' hi g
theorem ws_forR2 {j : Nat} (I : Nat → DS → List D → Prop) (lo hi : Int) (h : WA c tr ds pl fun xs p1 => xs = [.int lo, .int hi] ∧ (-(2 ^ 62) ≤ lo ∧ lo < 2 ^ 62 ∧ -(2 ^ 62) ≤ hi ∧ hi < 2 ^ 62) ∧ I 0 ds p1)
    (hs : ∀ (i : Nat) ds' pl', i < (hi - lo).toNat → I i ds' pl' → WS c t (ds'.set j (some (.d (.int (lo + i))))) pl' { nx := I (i + 1), ct := I (i + 1), bk := E.nx, rt := E.rt }) (hd : ∀ ds' pl', I (hi - lo).toNat ds' pl' → E.nx ds' pl') :
    WS c (tFor (iRng2 tr) (gName j) t) ds pl E := fun G σ H h0 D' f => h G σ H h0 _ fun vs G1 H1 xs p1 h1 e1 f1 ⟨e, b1, g1⟩ => by
  subst e
  cases f1 with
  | cons r1 b =>
    cases b with
    | cons r2 b =>
      cases b
      cases r1
      cases r2
      exact ⟨lo, hi, rfl, b1, for_rng I h1 (f.up e1) g1 hs hd⟩
end
end PD

/-! PD4: sizes of data, repr, built-ins, comprehensions, defs whole -/
namespace PD
open PySem PySem.Spec PyProof.Rows L2 Evl

/-! ### data that is small enough to be shown and compared -/
def okD : Nat → D → Prop
  | _, .none => True
  | _, .bool _ => True
  | _, .int i => i.natAbs < 10 ^ 150
  | _, .str x => PyData.strOk x = true ∧ x.length ≤ 15
  | n + 1, .list xs => ∀ x ∈ xs, okD n x
  | n + 1, .tuple xs => ∀ x ∈ xs, okD n x
  | 0, .list _ => False
  | 0, .tuple _ => False
  | _, .dict _ => False
mutual
def cnt : D → Nat
  | .list xs => cntA xs + 1
  | .tuple xs => cntA xs + 1
  | _ => 1
def cntA : List D → Nat
  | [] => 0
  | x :: xs => cnt x + cntA xs
end
theorem int_shown {i : Int} (h : i.natAbs < 10 ^ 150) : (PyData.shown (.int i)).length ≤ 151 ∧ i.natAbs.log2 < 1920 := by
  constructor
  · have e := int_text_length_le10 (k := 150) (by decide) h
    show (Str.ofString (toString i)).length ≤ 151
    rw [PySem.ofString_length]
    exact e
  · have h2 : i.natAbs < 2 ^ 600 := Nat.lt_trans h (by decide +kernel)
    exact Nat.lt_of_lt_of_le (PySem.Flt.log2_lt_of (by decide) h2) (by decide)
structure Fine (n : Nat) (d : D) : Prop where
  show_ : d.showable = true
  nodict : d.hasDict = false
  depth : d.depth ≤ n + 1
  lay : d.canLay0 = true
  len : d.shown.length + 2 ≤ 220 * cnt d
structure FineA (n : Nat) (ds : List D) : Prop where
  show_ : PyData.showableAll ds = true
  nodict : PyData.hasDictAll ds = false
  depth : PyData.depthAll ds ≤ n + 1
  lay : PyData.canLayAll0 ds = true
  len : ((PyData.shownAll ds).map (·.length)).sum + 2 * ds.length ≤ 220 * cntA ds
  same : (PyData.shownAll ds).length = ds.length
theorem fineA_of {n : Nat} : ∀ {ds : List D}, (∀ x ∈ ds, Fine n x) → FineA n ds
  | [], _ => ⟨rfl, rfl, Nat.zero_le _, rfl, Nat.zero_le _, rfl⟩
  | d :: ds, h => by
    have a := h d List.mem_cons_self
    have b := fineA_of (ds := ds) fun x hx => h x (List.mem_cons_of_mem _ hx)
    refine ⟨?_, ?_, ?_, ?_, ?_, ?_⟩
    · simp only [PyData.showableAll, a.show_, b.show_, Bool.and_self]
    · simp only [PyData.hasDictAll, a.nodict, b.nodict, Bool.or_self]
    · simp only [PyData.depthAll]
      exact Nat.max_le.mpr ⟨a.depth, b.depth⟩
    · simp only [PyData.canLayAll0, a.lay, b.lay, Bool.and_self]
    · have e : cntA (d :: ds) = cnt d + cntA ds := rfl
      have h1 := a.len
      have h2 := b.len
      rw [e, Nat.mul_add]
      simp only [PyData.shownAll, List.map_cons, List.sum_cons, List.length_cons]
      omega
    · simp only [PyData.shownAll, List.length_cons, b.same]
theorem fine_of : ∀ {n : Nat} {d : D}, okD n d → Fine n d := by
  intro n
  induction n with
  | zero =>
    intro d h
    cases d with
    | none => exact ⟨rfl, rfl, Nat.zero_le _, rfl, by decide⟩
    | bool b => exact ⟨rfl, rfl, Nat.zero_le _, rfl, by cases b <;> decide⟩
    | int i =>
      obtain ⟨a, b⟩ := int_shown (show i.natAbs < 10 ^ 150 from h)
      refine ⟨by simp only [PyData.showable, decide_eq_true_eq]; exact b, rfl, Nat.zero_le _, rfl, ?_⟩
      show (PyData.shown (.int i)).length + 2 ≤ 220 * 1
      omega
    | str x =>
      obtain ⟨a, b⟩ := (show PyData.strOk x = true ∧ x.length ≤ 15 from h)
      refine ⟨rfl, rfl, Nat.zero_le _, a, ?_⟩
      have h0 : ∀ c ∈ x.cps.toList, c < 16 ^ 8 := by
        intro c hc
        have a' : x.cps.all (· < 0x110000) = true := a
        have := (Array.all_eq_true_iff_forall_mem.mp a') c (Array.mem_toList_iff.mp hc)
        have e : (16 : Nat) ^ 8 = 4294967296 := by decide
        have q : c < 0x110000 := by simpa using this
        omega
      have := StrLaws.reprText_len x h0
      show (reprText x).length + 2 ≤ 220 * 1
      omega
    | list xs => exact (show False from h).elim
    | tuple xs => exact (show False from h).elim
    | dict _ => exact (show False from h).elim
  | succ n ih =>
    intro d h
    cases d with
    | none => exact ⟨rfl, rfl, Nat.zero_le _, rfl, by decide⟩
    | bool b => exact ⟨rfl, rfl, Nat.zero_le _, rfl, by cases b <;> decide⟩
    | int i =>
      obtain ⟨a, b⟩ := int_shown (show i.natAbs < 10 ^ 150 from h)
      refine ⟨by simp only [PyData.showable, decide_eq_true_eq]; exact b, rfl, Nat.zero_le _, rfl, ?_⟩
      show (PyData.shown (.int i)).length + 2 ≤ 220 * 1
      omega
    | str x =>
      have q := ih (d := .str x) (by cases n <;> exact h)
      exact ⟨q.show_, q.nodict, by have := q.depth; omega, q.lay, q.len⟩
    | list xs =>
      have a := fineA_of fun x hx => ih ((show ∀ x ∈ xs, okD n x from h) x hx)
      refine ⟨by simp only [PyData.showable, a.show_], by simp only [PyData.hasDict, a.nodict], by simp only [PyData.depth]; have := a.depth; omega, by simp only [PyData.canLay0, a.lay], ?_⟩
      have e : cnt (.list xs) = cntA xs + 1 := rfl
      have h1 := listText_len_le (PyData.shownAll xs)
      have h2 := a.len
      have h3 := a.same
      rw [e]
      simp only [PyData.shown]
      omega
    | tuple xs =>
      have a := fineA_of fun x hx => ih ((show ∀ x ∈ xs, okD n x from h) x hx)
      refine ⟨by simp only [PyData.showable, a.show_], by simp only [PyData.hasDict, a.nodict], by simp only [PyData.depth]; have := a.depth; omega, by simp only [PyData.canLay0, a.lay], ?_⟩
      have e : cnt (.tuple xs) = cntA xs + 1 := rfl
      have h1 := tupleText_len_le (PyData.shownAll xs)
      have h2 := a.len
      have h3 := a.same
      rw [e]
      simp only [PyData.shown]
      omega
    | dict _ => exact (show False from h).elim
theorem shaped_of {d : D} (h : okD 20 d) : SeqAt.shaped d = true := by
  have f := fine_of h
  unfold SeqAt.shaped
  rw [f.lay]
  exact decide_eq_true (by have := f.depth; omega)

/-! ### repr -/
def rRepr (K : PySem.W.Frag) : List V → Hp → VK → Prop := fun xs H Q => ∃ v d, xs = [v] ∧ Dp K H v d ∧ okD 20 d ∧ cnt d ≤ 60000 ∧ Q (.str d.shown) H
section
variable {X : Cx}
def CPowW (i j : Int) : Prop := 0 ≤ j ∧ j ≤ 1000 ∧ i.natAbs < 2 ^ 2000
theorem op_powW : OpR X (binaryOp .Pow) (rI CPowW fun i j => .int (i ^ j.toNat)) := opI fun i j _ _ _ _ _ hc q => by
  refine pow_int hc.1 ?_ q
  have b : Builtin.Int.intBits i ≤ 2001 := by
    have h1 := PySem.Flt.log2_lt_of (by decide) hc.2.2
    unfold Builtin.Int.intBits
    split <;> omega
  have h2 : (Builtin.Int.intBits i : Int) * j ≤ 2001 * 1000 := Int.mul_le_mul (by omega) hc.2.1 hc.1 (by omega)
  omega
end

section
variable {c : Cn} {K : PySem.W.Frag} {ds : DS} {pl : List D} {Φ : W → List D → Prop} {ta tb te : TE} {tr : TA}
/-! ### calls of built-ins -/
def CbS (c : Cn) (r : List V → Hp → VK → Prop) (ds : DS) (xs : List D) (p1 : List D) (Φ : W → List D → Prop) : Prop := ∀ G σ H vs, HS c G σ H ds p1 → RA G vs xs → ∀ Q : VK, Co c ds G σ Φ Q → r vs H Q
theorem we_cb {r : List V → Hp → VK → Prop} (ha : WA c tr ds pl fun xs p1 => CbS c r ds xs p1 Φ) : WE c (tCB r tr) ds pl Φ := fun G σ H hs Q q =>
  ha G σ H hs _ fun vs G1 H1 xs p1 h1 e1 f1 g1 => g1 G1 σ H1 vs h1 f1 Q fun z G2 H2 w p3 h2 e2 f2 g2 => q z G2 H2 w p3 h2 (e1.trans e2) f2 g2
theorem ra1 {G : Hp} {vs : List V} {d : D} (h : RA G vs [d]) : ∃ v, vs = [v] ∧ R G v d := by
  cases h with
  | cons a b => cases b; exact ⟨_, rfl, a⟩
theorem ra2 {G : Hp} {vs : List V} {d e : D} (h : RA G vs [d, e]) : ∃ v u, vs = [v, u] ∧ R G v d ∧ R G u e := by
  cases h with
  | cons a b =>
    cases b with
    | cons a' b => cases b; exact ⟨_, _, rfl, a, a'⟩
theorem cb_abs {i : Int} (h : Φ (.d (.int i.natAbs)) pl) : CbS c (fun xs H Q => ∃ i, xs = [.int i] ∧ Q (.int (if i < 0 then -i else i)) H) ds [.int i] pl Φ := fun G σ H vs hs f Q q => by
  obtain ⟨v, rfl, a⟩ := ra1 f
  cases a
  refine ⟨i, rfl, ?_⟩
  have e : (if i < 0 then -i else i) = ((i.natAbs : Nat) : Int) := by split <;> omega
  rw [e]
  exact q _ G H (.d _) pl hs (Ex.refl _) (R.int _) h
theorem cb_max2 {i j : Int} (h : Φ (.d (.int (max i j))) pl) : CbS c (fun xs H Q => ∃ i j, xs = [.int i, .int j] ∧ Q (.int (if j > i then j else i)) H) ds [.int i, .int j] pl Φ := fun G σ H vs hs f Q q => by
  obtain ⟨v, u, rfl, a, b⟩ := ra2 f
  cases a
  cases b
  refine ⟨i, j, rfl, ?_⟩
  have e : (if j > i then j else i) = max i j := by split <;> omega
  rw [e]
  exact q _ G H (.d _) pl hs (Ex.refl _) (R.int _) h
theorem cb_min2 {i j : Int} (h : Φ (.d (.int (min i j))) pl) : CbS c (fun xs H Q => ∃ i j, xs = [.int i, .int j] ∧ Q (.int (if j < i then j else i)) H) ds [.int i, .int j] pl Φ := fun G σ H vs hs f Q q => by
  obtain ⟨v, u, rfl, a, b⟩ := ra2 f
  cases a
  cases b
  refine ⟨i, j, rfl, ?_⟩
  have e : (if j < i then j else i) = min i j := by split <;> omega
  rw [e]
  exact q _ G H (.d _) pl hs (Ex.refl _) (R.int _) h
abbrev rInt1 : List V → Hp → VK → Prop := fun xs H Q => (∃ i, xs = [.int i] ∧ Q (.int i) H) ∨ ∃ k, xs = [.bl k] ∧ Q (.int (if k then 1 else 0)) H
theorem cb_int {i : Int} (h : Φ (.d (.int i)) pl) : CbS c rInt1 ds [.int i] pl Φ := fun G σ H vs hs f Q q => by
  obtain ⟨v, rfl, a⟩ := ra1 f
  cases a
  exact .inl ⟨i, rfl, q _ G H (.d _) pl hs (Ex.refl _) (R.int _) h⟩
theorem cb_intB {b : Bool} (h : Φ (.d (.int (if b then 1 else 0))) pl) : CbS c rInt1 ds [.bool b] pl Φ := fun G σ H vs hs f Q q => by
  obtain ⟨v, rfl, a⟩ := ra1 f
  cases a
  exact .inr ⟨b, rfl, q _ G H (.d _) pl hs (Ex.refl _) (R.int _) h⟩
abbrev rLenQ (K : PySem.W.Frag) : List V → Hp → VK → Prop := fun xs H Q => ∃ p ys, xs = [.ref p] ∧ (SqL K H p ys ∨ SqT K H p ys) ∧ Q (.int ys.length) H
theorem cb_lenL {xs : List D} (h : Φ (.d (.int xs.length)) pl) : CbS c (rLenQ K) ds [.list xs] pl Φ := fun G σ H vs hs f Q q => by
  obtain ⟨v, rfl, a⟩ := ra1 f
  cases a with
  | lst a b =>
    refine ⟨_, _, rfl, .inl (SqL.of (hs.sub _ _ a)), ?_⟩
    rw [b.len]
    exact q _ G H (.d _) pl hs (Ex.refl _) (R.int _) h
theorem cb_lenT {xs : List D} (h : Φ (.d (.int xs.length)) pl) : CbS c (rLenQ K) ds [.tuple xs] pl Φ := fun G σ H vs hs f Q q => by
  obtain ⟨v, rfl, a⟩ := ra1 f
  cases a with
  | tup a b =>
    refine ⟨_, _, rfl, .inr (SqT.of (hs.sub _ _ a)), ?_⟩
    rw [b.len]
    exact q _ G H (.d _) pl hs (Ex.refl _) (R.int _) h
abbrev rListQ (K : PySem.W.Frag) : List V → Hp → VK → Prop := fun xs H Q => ∃ p ys, xs = [.ref p] ∧ (SqL K H p ys ∨ SqT K H p ys) ∧ ∀ l, H l = none → Q (.ref l) (upd H l (.lst ys))
theorem cb_list {xs : List D} (h : Φ (.d (.list xs)) pl) : CbS c (rListQ K) ds [.list xs] pl Φ := fun G σ H vs hs f Q q => by
  obtain ⟨v, rfl, a⟩ := ra1 f
  cases a with
  | lst a b =>
    refine ⟨_, _, rfl, .inl (SqL.of (hs.sub _ _ a)), fun l hl => ?_⟩
    have n := hs.none_of hl
    exact q _ _ _ (.d (.list xs)) pl (hs.newD hl) (Ex.new n.1) (R.lst upd_same (b.up (Ex.new n.1))) h
theorem rgV_ints (n : Nat) : rgV 0 (n : Int) = ((List.range n).map fun (i : Nat) => (i : Int)).map V.int := by
  unfold rgV
  rw [List.map_map]
  have e : ((n : Int) - 0).toNat = n := by omega
  rw [e]
  refine List.map_congr_left fun i _ => ?_
  show V.int (0 + (i : Int)) = V.int (i : Int)
  rw [Int.zero_add]
/-! ### slices -/
theorem cutV_RA {G : Hp} {vs : List V} {xs : List D} (h : RA G vs xs) (lo hi : Option Int) : RA G (cutV vs lo hi) ((xs.drop (HT.sIx xs.length 0 lo)).take (HT.sIx xs.length xs.length hi - HT.sIx xs.length 0 lo)) := by
  unfold cutV
  rw [h.len]
  exact (h.drop _).take _
def WO (c : Cn) (to : TO) (ds : DS) (pl : List D) (Φ : Option Int → List D → Prop) : Prop := ∀ G σ H, HS c G σ H ds pl → ∀ Q : Option Int → Hp → Prop,
  (∀ o G' H' pl', HS c G' σ H' ds pl' → Ex G G' → Φ o pl' → Q o H') → to σ H Q
theorem wo_none {Φ : Option Int → List D → Prop} (h : Φ none pl) : WO c tNoPart ds pl Φ := fun G σ H hs Q q => q none G H pl hs (Ex.refl _) h
theorem wo_some {Φ : Option Int → List D → Prop} (h : WE c te ds pl (isI fun i p1 => Φ (some i) p1)) : WO c (tPart te) ds pl Φ := fun G σ H hs Q q => h G σ H hs _ fun v G1 H1 w p1 h1 e1 f1 g1 => by
  match w, f1, g1 with
  | .d (.int k), f1, g1 =>
    cases f1
    exact ⟨k, rfl, q _ G1 H1 p1 h1 e1 g1⟩
def cutD (xs : List D) (lo hi : Option Int) : List D := (xs.drop (HT.sIx xs.length 0 lo)).take (HT.sIx xs.length xs.length hi - HT.sIx xs.length 0 lo)
theorem we_slice {tl th : TO} (ha : WE c ta ds pl (isD fun x p1 => ∃ xs, x = .list xs ∧ WO c tl ds p1 fun lo p2 => WO c th ds p2 fun hi p3 => Φ (.d (.list (cutD xs lo hi))) p3)) : WE c (tSl (rSlL K) ta tl th) ds pl Φ := fun G σ H hs Q q =>
  ha G σ H hs _ fun v G1 H1 w p1 h1 e1 f1 g1 => by
    match w, f1, g1 with
    | .d x, f1, ⟨xs, ex, g1⟩ =>
      subst ex
      refine g1 G1 σ H1 h1 _ fun lo G2 H2 p2 h2 e2 g2 => g2 G2 σ H2 h2 _ fun hi G3 H3 p3 h3 e3 g3 => ?_
      cases f1 with
      | lst a b =>
        refine ⟨_, _, rfl, SqL.of (h3.sub _ _ (e3 _ _ (e2 _ _ a))), fun l hl => ?_⟩
        have n := h3.none_of hl
        exact q _ _ _ (.d _) p3 (h3.newD hl) ((e1.trans (e2.trans e3)).trans (Ex.new n.1)) (R.lst upd_same ((cutV_RA b lo hi).up ((e2.trans e3).trans (Ex.new n.1)))) g3

/-! ### comprehensions -/
def wipeD (ds : DS) : List Nat → DS
  | [] => ds
  | v :: vs => (wipeD ds vs).set v none
theorem HS.wipe1 (h : HS c G σ H ds pl) (i : Nat) : HS c G (σ.set i none) H (ds.set i none) pl := by
  refine ⟨h.sub, h.gh, h.gq, h.gn, h.keep, h.pl, h.pin, h.hid, by rw [List.length_set, List.length_set, h.len], fun j w' q => ?_, fun j k p xs ys q1 q2 q3 q4 => ?_⟩
  · by_cases e : i = j
    · subst e
      have hj : i < ds.length := by
        have := (List.getElem?_eq_some_iff.mp q).1
        rw [List.length_set] at this
        exact this
      rw [List.getElem?_set_self hj] at q
      cases q
    · rw [List.getElem?_set_ne e] at q
      obtain ⟨v', e1, e2⟩ := h.slots j w' q
      exact ⟨v', by rw [List.getElem?_set_ne e]; exact e1, e2⟩
  · have go : ∀ {m : Nat} {z : V}, (σ.set i none)[m]? = some (some z) → σ[m]? = some (some z) ∧ i ≠ m := fun {m z} q => by
      by_cases e : i = m
      · subst e
        have hj : i < σ.length := by
          have := (List.getElem?_eq_some_iff.mp q).1
          rw [List.length_set] at this
          exact this
        rw [List.getElem?_set_self hj] at q
        cases q
      · rw [List.getElem?_set_ne e] at q
        exact ⟨q, e⟩
    obtain ⟨a1, b1⟩ := go q3
    obtain ⟨a2, b2⟩ := go q4
    rw [List.getElem?_set_ne b1] at q1
    rw [List.getElem?_set_ne b2] at q2
    exact h.own j k p xs ys q1 q2 a1 a2
theorem HS.wipe (h : HS c G σ H ds pl) : ∀ vs : List Nat, HS c G (L2.wipe σ vs) H (wipeD ds vs) pl
  | [] => h
  | v :: vs => (HS.wipe h vs).wipe1 v
def Cn.with (c : Cn) (Dl : Addr) (o : HO) : Cn := { c with pin := fun a => if a = Dl then some o else c.pin a }
structure DF (c : Cn) (σ : L2.St) (ds : DS) (Dl : Addr) : Prop where
  h0 : c.H0 Dl = none
  pin : c.pin Dl = none
  pool : c.pool ≠ some Dl
  hd : ¬ c.hd Dl
  ne : ∀ (i : Nat) (xs : List D) (p : Addr), ds[i]? = some (some (W.o xs)) → σ[i]? = some (some (.ref p)) → p ≠ Dl
theorem with_at {Dl : Addr} {o : HO} : (c.with Dl o).pin Dl = some o := if_pos rfl
theorem with_ne {Dl a : Addr} {o : HO} (h : a ≠ Dl) : (c.with Dl o).pin a = c.pin a := if_neg h
theorem HS.to_with (h : HS c G σ H ds pl) {Dl : Addr} {o : HO} (f : DF c σ ds Dl) (hD : H Dl = some o) (gD : G Dl = none) : HS (c.with Dl o) G σ H ds pl := by
  refine ⟨h.sub, h.gh, h.gq, fun a u q => ?_, h.keep, fun p z => ?_, fun a u q => ?_, h.hid, h.len, fun i w q => ?_, h.own⟩
  · by_cases e : a = Dl
    · subst e; exact gD
    · rw [with_ne e] at q; exact h.gn a u q
  · obtain ⟨b1, b2, b3⟩ := h.pl p z
    exact ⟨b1, by rw [with_ne (fun e : p = Dl => f.pool (e ▸ z))]; exact b2, b3⟩
  · by_cases e : a = Dl
    · subst e; rw [with_at] at q; cases q; exact hD
    · rw [with_ne e] at q; exact h.pin a u q
  · obtain ⟨v, e1, e2⟩ := h.slots i w q
    refine ⟨v, e1, ?_⟩
    cases w with
    | d x => exact e2
    | v x => exact e2
    | o xs =>
      obtain ⟨p, vs, rfl, a1, a2, a3, a4, a5, a6, a7⟩ := e2
      exact ⟨p, vs, rfl, a1, a2, a3, a4, by rw [with_ne (f.ne i xs p q e1)]; exact a5, a6, a7⟩
theorem HS.push (h : HS c G σ H ds pl) {Dl : Addr} {o : HO} (f : DF c σ ds Dl) (gD : G Dl = none) : HS c G σ (upd H Dl o) ds pl := by
  have ne : ∀ a, a ≠ Dl → (upd H Dl o) a = H a := fun a q => upd_ne q
  refine ⟨fun a u q => ?_, h.gh, h.gq, h.gn, fun a u q1 q2 => ?_, fun p z => ?_, fun a u q => ?_, fun a q => ?_, h.len, fun i w q => ?_, h.own⟩
  · rw [ne a (fun e => by rw [e, gD] at q; cases q)]; exact h.sub a u q
  · rw [ne a (fun e => by rw [e, f.h0] at q2; cases q2)]; exact h.keep a u q1 q2
  · obtain ⟨b1, b2, vs, b3, b4⟩ := h.pl p z
    exact ⟨b1, b2, vs, by rw [ne p (fun e => f.pool (e ▸ z))]; exact b3, b4⟩
  · rw [ne a (fun e => by rw [e, f.pin] at q; cases q)]; exact h.pin a u q
  · rw [ne a (fun e => f.hd (e ▸ q))]; exact h.hid a q
  · obtain ⟨v, e1, e2⟩ := h.slots i w q
    refine ⟨v, e1, ?_⟩
    cases w with
    | d x => exact e2
    | v x => exact e2
    | o xs =>
      obtain ⟨p, vs, rfl, a1, a2⟩ := e2
      exact ⟨p, vs, rfl, by rw [ne p (f.ne i xs p q e1)]; exact a1, a2⟩
theorem HS.back (h : HS c G σ H ds pl) {Dl : Addr} {o : HO} {G3 H3 : Hp} {σ2 : L2.St} {ds2 : DS} {p3 : List D} (f : DF c σ ds Dl) (h3 : HS (c.with Dl o) G3 σ2 H3 ds2 p3) (e : Ex G G3)
    (ho : ∀ (i : Nat) (xs : List D), ds[i]? = some (some (W.o xs)) → ds2[i]? = some (some (W.o xs)) ∧ σ2[i]? = σ[i]?) : HS c G3 σ H3 ds p3 := by
  refine ⟨h3.sub, h3.gh, h3.gq, fun a u q => ?_, h3.keep, fun p z => ?_, fun a u q => ?_, h3.hid, h.len, fun i w q => ?_, h.own⟩
  · refine h3.gn a u ?_
    rw [with_ne (fun e => by rw [e, f.pin] at q; cases q)]; exact q
  · obtain ⟨b1, b2, b3⟩ := h3.pl p z
    rw [with_ne (fun e : p = Dl => f.pool (e ▸ z))] at b2
    exact ⟨b1, b2, b3⟩
  · refine h3.pin a u ?_
    rw [with_ne (fun e => by rw [e, f.pin] at q; cases q)]; exact q
  · obtain ⟨v, e1, e2⟩ := h.slots i w q
    refine ⟨v, e1, ?_⟩
    cases w with
    | d x => exact R.up e2 e
    | v x => exact e2
    | o xs =>
      obtain ⟨k1, k2⟩ := ho i xs q
      obtain ⟨v', d1, p, us, d2, d3, d4, d5, d6, d7, d8, d9⟩ := h3.slots i _ k1
      have ev : v' = v := by rw [k2, e1] at d1; exact (Option.some.inj (Option.some.inj d1)).symm
      subst ev
      subst d2
      rw [with_ne (f.ne i xs p q e1)] at d7
      exact ⟨p, us, rfl, d3, d4, d5, d6, d7, d8, d9⟩
def PvC (c : Cn) (σ : L2.St) (ds : DS) (G1 : Hp) (Dl : Addr) (J : Nat → List D → List D → Prop) (i : Nat) (H' : Hp) : Prop :=
  ∃ G' pl' acc us, HS c G' σ H' ds pl' ∧ Ex G1 G' ∧ H' Dl = some (.lst us) ∧ RA G' us acc ∧ G' Dl = none ∧ J i acc pl'
theorem wipe_other {α : Type} {l : List (Option α)} {i : Nat} : ∀ {vs : List Nat}, i ∉ vs → ∀ {f : List Nat → List (Option α)}, (f [] = l) → (∀ v r, f (v :: r) = (f r).set v none) → (f vs)[i]? = l[i]?
  | [], _, f, h0, _ => by rw [h0]
  | v :: vs, hn, f, h0, h1 => by
    rw [h1, List.getElem?_set_ne (fun e : v = i => hn (e ▸ List.mem_cons_self))]
    exact wipe_other (fun q => hn (List.mem_cons_of_mem _ q)) h0 h1
theorem wipe_ne {σ : L2.St} {i : Nat} {vs : List Nat} (h : i ∉ vs) : (L2.wipe σ vs)[i]? = σ[i]? := wipe_other h (f := fun vs => L2.wipe σ vs) rfl fun _ _ => rfl
theorem wipeD_ne {ds : DS} {i : Nat} {vs : List Nat} (h : i ∉ vs) : (wipeD ds vs)[i]? = ds[i]? := wipe_other h (f := fun vs => wipeD ds vs) rfl fun _ _ => rfl
section
variable {tt : TT} {j : Nat}
theorem lc_turnD (J : Nat → List D → List D → Prop) {G1 : Hp} {Dl : Addr} {i : Nat} {v : V} {x : D} {H' : Hp} (f : DF c σ ds Dl) (hj : ∀ (xs : List D), ds[j]? ≠ some (some (W.o xs))) (p : PvC c σ ds G1 Dl J i H') (hx : ∀ G', Ex G1 G' → R G' v x)
    (user : ∀ acc pl', J i acc pl' → ∀ pin, WT { c with pin := pin } tt ((wipeD ds [j]).set j (some (.d x))) pl' fun b p2 => if b = true then WE { c with pin := pin } te ((wipeD ds [j]).set j (some (.d x))) p2
      (isD fun y p3 => acc.length < sizeLine ∧ J (i + 1) (acc ++ [y]) p3) else J (i + 1) acc p2) :
    tt ((L2.wipe σ [j]).set j (some v)) H' fun b H3 => if b = true then te ((L2.wipe σ [j]).set j (some v)) H3 fun y H4 => ∃ acc, H4 Dl = some (.lst acc) ∧ acc.length < sizeLine ∧ PvC c σ ds G1 Dl J (i + 1) (upd H4 Dl (.lst (acc ++ [y]))) else PvC c σ ds G1 Dl J (i + 1) H3 := by
  obtain ⟨G', pl', acc, us, h, e1, hD, ra, gD, hJ⟩ := p
  have hw : HS c G' ((L2.wipe σ [j]).set j (some v)) H' ((wipeD ds [j]).set j (some (.d x))) pl' := (h.wipe [j]).set (w := .d x) (hx G' e1) fun xs z => by cases z
  have same : ∀ (i : Nat) (xs : List D), ds[i]? = some (some (W.o xs)) → ((wipeD ds [j]).set j (some (.d x)))[i]? = some (some (W.o xs)) ∧ ((L2.wipe σ [j]).set j (some v))[i]? = σ[i]? := fun i xs q => by
    have ne : j ≠ i := fun e => hj xs (e ▸ q)
    have nm : i ∉ [j] := fun z => ne (List.mem_singleton.mp z).symm
    rw [List.getElem?_set_ne ne, List.getElem?_set_ne ne, wipeD_ne nm, wipe_ne nm]
    exact ⟨q, rfl⟩
  have f2 : DF c ((L2.wipe σ [j]).set j (some v)) ((wipeD ds [j]).set j (some (.d x))) Dl := ⟨f.h0, f.pin, f.pool, f.hd, fun i xs p q1 q2 => by
    by_cases e : j = i
    · subst e
      have hlt : j < ((wipeD ds [j])).length := by
        have := (List.getElem?_eq_some_iff.mp q1).1
        rw [List.length_set] at this
        exact this
      rw [List.getElem?_set_self hlt] at q1
      cases q1
    · have nm : i ∉ [j] := fun z => e (List.mem_singleton.mp z).symm
      rw [List.getElem?_set_ne e, wipeD_ne nm] at q1
      rw [List.getElem?_set_ne e, wipe_ne nm] at q2
      exact f.ne i xs p q1 q2⟩
  refine user acc pl' hJ _ G' _ H' (hw.to_with f2 hD gD) _ fun b G2 H2 p2 h2 e2 g2 => ?_
  cases b with
  | true =>
    refine (show WE _ te _ p2 _ from g2) G2 _ H2 h2 _ fun y G3 H3 w p3 h3 e3 f3 g3 => ?_
    match w, f3, g3 with
    | .d z, f3, ⟨g3, g4⟩ =>
      have b3 := h.back f h3 (e2.trans e3) same
      have dD : G3 Dl = none := h3.gn Dl _ with_at
      exact ⟨us, h3.pin Dl _ with_at, by rw [ra.len]; exact g3, G3, p3, acc ++ [z], us ++ [y], b3.push f dD, e1.trans (e2.trans e3), upd_same, (ra.up (e2.trans e3)).app (.cons f3 .nil), dD, g4⟩
  | false =>
    exact ⟨G2, p2, acc, us, h.back f h2 e2 same, e1.trans e2, h2.pin Dl _ with_at, ra.up e2, h2.gn Dl _ with_at, g2⟩
theorem df_new {H1 : Hp} (h : HS c G σ H1 ds pl) {Dl : Addr} (hD : H1 Dl = none) : DF c σ ds Dl := by
  obtain ⟨n1, n2, n3, n4, n5⟩ := h.none_of hD
  refine ⟨n5, n3, n4, n2, fun i xs p q1 q2 e => ?_⟩
  obtain ⟨v, e1, p', us, rfl, b1, _⟩ := h.slots i _ q1
  rw [q2] at e1
  have ep : p = p' := V.ref.inj (Option.some.inj (Option.some.inj e1))
  rw [← ep, e, hD] at b1
  cases b1
theorem wipe_set (σ : L2.St) (j : Nat) (v : V) : L2.wipe ((L2.wipe σ [j]).set j (some v)) [j] = L2.wipe σ [j] := by
  show ((σ.set j none).set j (some v)).set j none = σ.set j none
  rw [List.set_set, List.set_set]
theorem pv_start (J : Nat → List D → List D → Prop) {G1 H1 : Hp} {p1 : List D} {Dl : Addr} (h : HS c G1 σ H1 ds p1) (hD : H1 Dl = none) (g : J 0 [] p1) : PvC c σ ds G1 Dl J 0 (upd H1 Dl (.lst [])) :=
  ⟨G1, p1, [], [], h.newH hD, Ex.refl _, upd_same, .nil, (h.none_of hD).1, g⟩
theorem pv_end {J : Nat → List D → List D → Prop} {G1 : Hp} {Dl : Addr} {n : Nat} {H' : Hp} {Q : VK} (f : DF c σ ds Dl) (p : PvC c σ ds G1 Dl J n H') (hq : ∀ acc pl', J n acc pl' → Φ (.d (.list acc)) pl')
    (q : ∀ v G' H' w pl', HS c G' σ H' ds pl' → Ex G1 G' → VW G' H' c v w → Φ w pl' → Q v H') : Q (.ref Dl) H' := by
  obtain ⟨G', pl', acc, us, h, e1, hD, ra, gD, hJ⟩ := p
  have s2 : Ex G' (upd G' Dl (.lst us)) := Ex.new gD
  refine q (.ref Dl) (upd G' Dl (.lst us)) H' (.d (.list acc)) pl' ⟨fun a o z => ?_, fun a z => ?_, fun a z => ?_, fun a o z => ?_, h.keep, fun p z => ?_, h.pin, h.hid, h.len, fun i w z => ?_, h.own⟩ (e1.trans s2) (R.lst upd_same (ra.up s2)) (hq acc pl' hJ)
  · by_cases y : a = Dl
    · subst y; rw [upd_same] at z; cases z; exact hD
    · rw [upd_ne y] at z; exact h.sub a o z
  · rw [upd_ne (fun y : a = Dl => f.hd (y ▸ z))]; exact h.gh a z
  · rw [upd_ne (fun y : a = Dl => f.pool (y ▸ z))]; exact h.gq a z
  · rw [upd_ne (fun y : a = Dl => by rw [y, f.pin] at z; cases z)]; exact h.gn a o z
  · obtain ⟨c1, c2, vs', c3, c4⟩ := h.pl p z
    exact ⟨c1, c2, vs', c3, c4.up s2⟩
  · obtain ⟨v, d1, d2⟩ := h.slots i w z
    refine ⟨v, d1, ?_⟩
    cases w with
    | d x => exact R.up d2 s2
    | v x => exact d2
    | o ys =>
      obtain ⟨q', us', rfl, k1, k2, k3, k4⟩ := d2
      exact ⟨q', us', rfl, k1, k2.up s2, by rw [upd_ne (f.ne i ys q' z d1)]; exact k3, k4⟩
theorem we_lcL {tl : TE} (J : Nat → List D → List D → Prop) (xs : List D) (hj : ∀ (xs : List D), ds[j]? ≠ some (some (W.o xs))) (h : WE c tl ds pl (isD fun d p1 => d = .list xs ∧ J 0 [] p1))
    (user : ∀ (i : Nat) x acc pl', xs[i]? = some x → J i acc pl' → ∀ pin, WT { c with pin := pin } tt ((wipeD ds [j]).set j (some (.d x))) pl' fun b p2 => if b = true then WE { c with pin := pin } te ((wipeD ds [j]).set j (some (.d x))) p2
      (isD fun y p3 => acc.length < sizeLine ∧ J (i + 1) (acc ++ [y]) p3) else J (i + 1) acc p2)
    (hq : ∀ acc pl', J xs.length acc pl' → Φ (.d (.list acc)) pl') : WE c (tLc (iList K tl) (gName j) tt te [j]) ds pl Φ := fun G σ H h0 Q q => h G σ H h0 _ fun v G1 H1 w p1 h1 e1 f1 g1 => by
  match w, f1, g1 with
  | .d d, f1, ⟨ed, g1⟩ =>
    subst ed
    cases f1 with
    | @lst a vs _ a1 b1 =>
    refine ⟨a, rfl, ⟨vs, SqL.of (h1.sub _ _ a1)⟩, fun Dl hD => ?_⟩
    have f := df_new h1 hD
    refine lc_list (K := K) (a := a) (xs := vs) (PvC c σ ds G1 Dl J) (pv_start J h1 hD g1) ?_ ?_ ?_
    · rintro i H' _ ⟨G', pl', acc, us, h2, e2, _⟩
      exact SqL.of (h2.sub _ _ (e2 _ _ a1))
    · intro i x H' hx p
      obtain ⟨d, hd1, hd2⟩ := b1.get' hx
      exact ⟨wipe_set σ j x, lc_turnD J f hj p (fun G' e => R.up hd2 e) fun acc pl' hJ pin => user i d acc pl' hd1 hJ pin⟩
    · intro H' p
      rw [b1.len] at p
      exact pv_end f p hq fun v G' H' w pl' h2 e2 f2 g2 => q v G' H' w pl' h2 (e1.trans e2) f2 g2
theorem we_lcR {tr : TA} (J : Nat → List D → List D → Prop) (n : Nat) (hj : ∀ (xs : List D), ds[j]? ≠ some (some (W.o xs))) (h : WA c tr ds pl fun ys p1 => ∃ k : Int, ys = [.int k] ∧ k.toNat = n ∧ -(2 ^ 62) ≤ k ∧ k < 2 ^ 62 ∧ J 0 [] p1)
    (user : ∀ (i : Nat) acc pl', i < n → J i acc pl' → ∀ pin, WT { c with pin := pin } tt ((wipeD ds [j]).set j (some (.d (.int i)))) pl' fun b p2 => if b = true then WE { c with pin := pin } te ((wipeD ds [j]).set j (some (.d (.int i)))) p2
      (isD fun y p3 => acc.length < sizeLine ∧ J (i + 1) (acc ++ [y]) p3) else J (i + 1) acc p2)
    (hq : ∀ acc pl', J n acc pl' → Φ (.d (.list acc)) pl') : WE c (tLc (iRng1 tr) (gName j) tt te [j]) ds pl Φ := fun G σ H h0 Q q => h G σ H h0 _ fun vs G1 H1 xs p1 h1 e1 f1 ⟨k, e, en, b1, b2, g1⟩ => by
  subst e en
  cases f1 with
  | cons r1 b =>
    cases b
    cases r1
    refine ⟨k, rfl, b1, b2, fun Dl hD => ?_⟩
    have f := df_new h1 hD
    refine lc_range (lo := 0) (n := k.toNat) (PvC c σ ds G1 Dl J) (pv_start J h1 hD g1) ?_ ?_
    · intro i H' hi p
      have e0 : (0 : Int) + (i : Int) = (i : Int) := Int.zero_add _
      rw [e0]
      exact ⟨wipe_set σ j _, lc_turnD J f hj p (fun G' e => R.int _) fun acc pl' hJ pin => user i acc pl' hi hJ pin⟩
    · intro H' p
      exact pv_end f p hq fun v G' H' w pl' h2 e2 f2 g2 => q v G' H' w pl' h2 (e1.trans e2) f2 g2
end
end

/-! ### defs whole -/
section
variable {P : Program} {w : World} {K : PySem.W.Frag} {mg : Str → Option Value} {base : Heap} {k : Nat} {f : Addr} {fd : FuncData} {ps : List Str}
def slotsD (N : List Str) (ds : List D) : DS := ds.map (fun x => some (W.d x)) ++ List.replicate (N.length - ds.length) none
theorem hs_start {G H : Hp} {vs : List V} {ds : List D} {N : List Str} (s : Ex G H) (r : RA G vs ds) : HS ⟨H, fun a => G a = none ∧ ∃ o, H a = some o, none, fun _ => none⟩ G (L2.start N vs) H (slotsD N ds) [] := by
  refine ⟨s, fun a q => q.1, fun a q => (by cases q), fun a o q => (by cases q), fun a o _ q => q, fun p q => (by cases q), fun a o q => (by cases q), fun a q => q.2, ?_, fun i w q => ?_, fun i j p xs ys q1 => ?_⟩
  · unfold L2.start slotsD
    simp only [List.length_append, List.length_map, List.length_replicate, r.len]
  · unfold slotsD at q
    by_cases hi : i < ds.length
    · rw [List.getElem?_append_left (by rw [List.length_map]; exact hi), List.getElem?_map] at q
      obtain ⟨v, e1, e2⟩ := r.get (i := i) (d := ds[i]) (List.getElem?_eq_getElem hi)
      rw [List.getElem?_eq_getElem hi] at q
      cases q
      refine ⟨v, ?_, e2⟩
      unfold L2.start
      rw [List.getElem?_append_left (by rw [List.length_map, r.len]; exact hi), List.getElem?_map, e1]
      rfl
    · rw [List.getElem?_append_right (by rw [List.length_map]; omega), List.getElem?_replicate] at q
      split at q <;> cases q
  · unfold slotsD at q1
    by_cases hi : i < ds.length
    · rw [List.getElem?_append_left (by rw [List.length_map]; exact hi), List.getElem?_map, List.getElem?_eq_getElem hi] at q1
      cases q1
    · rw [List.getElem?_append_right (by rw [List.length_map]; omega), List.getElem?_replicate] at q1
      split at q1 <;> cases q1
abbrev rtD (k : D → Prop) : W → List D → Prop := fun w _ => match w with
  | .d x => k x
  | _ => False
theorem fgP {F : List D → (D → Prop) → Prop} {x qual : Str} {st : Stmt} {N : List Str} (Fn : Fun K x qual st f fd) (S : FnScope N ps (defScope st)) (len : ∀ ds k, F ds k → ds.length = ps.length)
    (go : ∀ (cdv : Value) (B : Around) (fr : List Env) (s : Shared) (H : Hp) (E : XK), B.guards = some [] → Room k (B.deeper (envOfC qual (defScope st) s.heap.objs.size f cdv)) → ∃ t, PSs (cxOf CX0 P w K mg base N qual (defScope st) f cdv B fr s H E).nox (defBody st) t ∧ ∀ c ds (k : D → Prop), c.pool = none → F ds k → WS c t (slotsD N ds) [] ⟨fun _ _ => k .none, rtD k, fun _ _ => False, fun _ _ => False⟩) : FG P w K mg base (k + 1) f fd ps (spP F) := by
  refine fg_of Fn S (fun vs H Q E h => ?_) fun cdv B fr s H vs Q E hg hr h => ?_
  · obtain ⟨G, ds, _, r, h⟩ := h
    rw [r.len]
    exact len _ _ h
  · obtain ⟨t, der, body⟩ := go cdv B fr s H E hg hr
    refine ⟨t, der, ?_⟩
    obtain ⟨G, ds, s0, r, h⟩ := h
    refine body ⟨H, fun a => G a = none ∧ ∃ o, H a = some o, none, fun _ => none⟩ ds _ rfl h G _ H (hs_start s0 r) _ ⟨?_, ?_, ?_, ?_⟩
    · exact fun G' σ' H' ds' pl' h' e q => q _ G' H' (fun a o z => h'.keep a o (fun y => by cases y) z) h'.sub e (fun a o z1 z2 => h'.gh a ⟨z2, o, z1⟩) R.non
    · intro v G' σ' H' ds' w' pl' h' e q g
      match w', q, g with
      | .d y, q, g => exact g v G' H' (fun a o z => h'.keep a o (fun y => by cases y) z) h'.sub e (fun a o z1 z2 => h'.gh a ⟨z2, o, z1⟩) q
    · exact fun G' σ' H' ds' pl' h' e q => q.elim
    · exact fun G' σ' H' ds' pl' h' e q => q.elim
abbrev rtN (k : List D → Prop) : W → List D → Prop := fun w _ => match w with
  | .o x => k x
  | _ => False
theorem fgN {F : List D → (List D → Prop) → Prop} {x qual : Str} {st : Stmt} {N : List Str} (Fn : Fun K x qual st f fd) (S : FnScope N ps (defScope st)) (len : ∀ ds k, F ds k → ds.length = ps.length)
    (go : ∀ (cdv : Value) (B : Around) (fr : List Env) (s : Shared) (H : Hp) (E : XK), B.guards = some [] → Room k (B.deeper (envOfC qual (defScope st) s.heap.objs.size f cdv)) → ∃ t, PSs (cxOf CX0 P w K mg base N qual (defScope st) f cdv B fr s H E).nox (defBody st) t ∧ ∀ c ds (k : List D → Prop), c.pool = none → F ds k → WS c t (slotsD N ds) [] ⟨fun _ _ => False, rtN k, fun _ _ => False, fun _ _ => False⟩) : FG P w K mg base (k + 1) f fd ps (spN F) := by
  refine fg_of Fn S (fun vs H Q E h => ?_) fun cdv B fr s H vs Q E hg hr h => ?_
  · obtain ⟨G, ds, _, r, h⟩ := h
    rw [r.len]
    exact len _ _ h
  · obtain ⟨t, der, body⟩ := go cdv B fr s H E hg hr
    refine ⟨t, der, ?_⟩
    obtain ⟨G, ds, s0, r, h⟩ := h
    refine body ⟨H, fun a => G a = none ∧ ∃ o, H a = some o, none, fun _ => none⟩ ds _ rfl h G _ H (hs_start s0 r) _ ⟨?_, ?_, ?_, ?_⟩
    · exact fun G' σ' H' ds' pl' h' e q => q.elim
    · intro v G' σ' H' ds' w' pl' h' e q g
      match w', q, g with
      | .o y, ⟨p, us, ev, a1, a2, a3, a4, a5, a6, a7⟩, g =>
        subst ev
        exact g p us G' H' (fun a o z => h'.keep a o (fun y => by cases y) z) h'.sub e (fun a o z1 z2 => h'.gh a ⟨z2, o, z1⟩) a4 a3 a1 a2
    · exact fun G' σ' H' ds' pl' h' e q => q.elim
    · exact fun G' σ' H' ds' pl' h' e q => q.elim
def slotsO (N : List Str) (p : Addr) (ds : List D) : DS := some (.v (.ref p)) :: (ds.map (fun x => some (W.d x)) ++ List.replicate (N.length - (ds.length + 1)) none)
theorem hs_startO {G H : Hp} {p : Addr} {us vs : List V} {pl ds : List D} {N : List Str} (s : Ex G H) (gp : G p = none) (hp : H p = some (.lst us)) (ru : RA G us pl) (r : RA G vs ds) :
    HS ⟨H, fun a => (G a = none ∧ ∃ o, H a = some o) ∧ a ≠ p, some p, fun _ => none⟩ G (L2.start N (.ref p :: vs)) H (slotsO N p ds) pl := by
  refine ⟨s, fun a q => q.1.1, fun a q => (by cases q; exact gp), fun a o q => (by cases q), fun a o _ q => q, fun q z => ?_, fun a o q => (by cases q), fun a q => q.1.2, ?_, fun i w q => ?_, fun i j p xs ys q1 => ?_⟩
  · cases z
    exact ⟨fun y => y.2 rfl, rfl, us, hp, ru⟩
  · unfold L2.start slotsO
    simp only [List.length_append, List.length_map, List.length_replicate, List.length_cons, r.len]
    omega
  · unfold slotsO at q
    cases i with
    | zero =>
      cases q
      exact ⟨_, rfl, rfl⟩
    | succ i =>
      rw [List.getElem?_cons_succ] at q
      by_cases hi : i < ds.length
      · rw [List.getElem?_append_left (by rw [List.length_map]; exact hi), List.getElem?_map] at q
        obtain ⟨v, e1, e2⟩ := r.get (i := i) (d := ds[i]) (List.getElem?_eq_getElem hi)
        rw [List.getElem?_eq_getElem hi] at q
        cases q
        refine ⟨v, ?_, e2⟩
        unfold L2.start
        rw [List.map_cons, List.cons_append, List.getElem?_cons_succ, List.getElem?_append_left (by rw [List.length_map, r.len]; exact hi), List.getElem?_map, e1]
        rfl
      · rw [List.getElem?_append_right (by rw [List.length_map]; omega), List.getElem?_replicate] at q
        split at q <;> cases q
  · unfold slotsO at q1
    cases i with
    | zero => cases q1
    | succ i =>
      rw [List.getElem?_cons_succ] at q1
      by_cases hi : i < ds.length
      · rw [List.getElem?_append_left (by rw [List.length_map]; exact hi), List.getElem?_map, List.getElem?_eq_getElem hi] at q1
        cases q1
      · rw [List.getElem?_append_right (by rw [List.length_map]; omega), List.getElem?_replicate] at q1
        split at q1 <;> cases q1
abbrev rtO (k : D → List D → Prop) : W → List D → Prop := fun w pl => match w with
  | .d x => k x pl
  | _ => False
theorem fgO {F : List D → List D → (D → List D → Prop) → Prop} {x qual : Str} {st : Stmt} {N : List Str} (Fn : Fun K x qual st f fd) (S : FnScope N ps (defScope st)) (len : ∀ pl ds k, F pl ds k → ds.length + 1 = ps.length)
    (go : ∀ (cdv : Value) (B : Around) (fr : List Env) (s : Shared) (H : Hp) (E : XK), B.guards = some [] → Room k (B.deeper (envOfC qual (defScope st) s.heap.objs.size f cdv)) → ∃ t, PSs (cxOf CX0 P w K mg base N qual (defScope st) f cdv B fr s H E).nox (defBody st) t ∧ ∀ c p pl ds (k : D → List D → Prop), c.pool = some p → F pl ds k → WS c t (slotsO N p ds) pl ⟨fun _ pl' => k .none pl', rtO k, fun _ _ => False, fun _ _ => False⟩) : FG P w K mg base (k + 1) f fd ps (spO F) := by
  refine fg_of Fn S (fun vs H Q E h => ?_) fun cdv B fr s H vs Q E hg hr h => ?_
  · obtain ⟨G, p, vs', us, pl, ds, rfl, _, _, _, _, r, h⟩ := h
    rw [List.length_cons, r.len]
    exact len _ _ _ h
  · obtain ⟨t, der, body⟩ := go cdv B fr s H E hg hr
    refine ⟨t, der, ?_⟩
    obtain ⟨G, p, vs', us, pl, ds, rfl, s0, gp, hp, ru, r, h⟩ := h
    have fin : ∀ {G' σ' H' ds' pl'}, HS ⟨H, fun a => (G a = none ∧ ∃ o, H a = some o) ∧ a ≠ p, some p, fun _ => none⟩ G' σ' H' ds' pl' → ∃ us', (∀ a o, a ≠ p → H a = some o → H' a = some o) ∧ Ex G' H' ∧ (∀ a o, H a = some o → G a = none → G' a = none) ∧ H' p = some (.lst us') ∧ RA G' us' pl' := by
      intro G' σ' H' ds' pl' h'
      obtain ⟨_, _, us', b1, b2⟩ := h'.pl p rfl
      refine ⟨us', fun a o z z2 => h'.keep a o (fun y => z (Option.some.inj y).symm) z2, h'.sub, fun a o z1 z2 => ?_, b1, b2⟩
      by_cases e : a = p
      · rw [e]; exact h'.gq p rfl
      · exact h'.gh a ⟨⟨z2, o, z1⟩, e⟩
    refine body ⟨H, fun a => (G a = none ∧ ∃ o, H a = some o) ∧ a ≠ p, some p, fun _ => none⟩ p pl ds _ rfl h G _ H (hs_startO s0 gp hp ru r) _ ⟨?_, ?_, ?_, ?_⟩
    · intro G' σ' H' ds' pl' h' e q
      obtain ⟨us', a1, a2, a3, a4, a5⟩ := fin h'
      exact q _ G' H' us' a1 a2 e a3 a4 a5 R.non
    · intro v G' σ' H' ds' w' pl' h' e q g
      obtain ⟨us', a1, a2, a3, a4, a5⟩ := fin h'
      match w', q, g with
      | .d y, q, g => exact g v G' H' us' a1 a2 e a3 a4 a5 q
    · exact fun G' σ' H' ds' pl' h' e q => q.elim
    · exact fun G' σ' H' ds' pl' h' e q => q.elim
end
end PD

/-! PD5: enumerate over a tuple; calls with keywords; more operations -/
namespace PD
open PySem PySem.Spec PyProof.Rows L2 Evl
open AutoSeq1 (wpAny_loadPart')

theorem meets_enum_tup (l : Addr) (o : Obj) (items : Array Value) :
    Meets (Builtin.«enumerate.__new__» ⟨[.type "enumerate", .ref l], []⟩) (fun _ Rr s => (s.heap.get? l = some o ∧ o.cls = .type "tuple" ∧ s.heap.IsTuple l items) ∧
      Rr (.ok (.ret (.ref (s.heap.push { cls := .type "tuple_iterator", data := .fields #[.ref l, .int 0 0] }).objs.size)))
        { s with heap := (s.heap.push { cls := .type "tuple_iterator", data := .fields #[.ref l, .int 0 0] }).push { cls := .type "enumerate", data := .fields #[.none, .bool false, .ref s.heap.objs.size, rawInt 0, .none, .none] } }) := by
  refine .of_wp ?_
  intro prog w A Rr s h
  obtain ⟨hp, g, d, tk, os⟩ := s
  obtain ⟨⟨hl, hc, hL⟩, h⟩ := h
  have hsub := PySem.sub_enumerate
  have hL2 : Heap.IsTuple (Shared.heap ⟨hp, g, d, tk, os⟩) l items := hL
  wp_walk using wpAny_loadPart' hl
  refine wpAny_stack_any fun st => wpAny_pure ?_
  split
  next c _ _ _ _ _ =>
    cases (c == Value.type "enumerate") <;> (wp_walk using wpAny_loadPart' hl, wpAny_pyIter_tuple hL2; exact ⟨_, rfl, h⟩)
  next => wp_walk using wpAny_loadPart' hl, wpAny_pyIter_tuple hL2; exact ⟨_, rfl, h⟩
section
variable {prog : Program} {w : World} {A : Around} {E : Value → Shared → Prop} {s : Shared}
theorem call_enum_tup {l : Addr} {items : Array Value} {Q : Value → Shared → Prop} (hL : s.heap.IsTuple l items)
    (h : ∀ h', IsEnum h' (s.heap.objs.size + 1) s.heap.objs.size 0 .none → h'.IsTupleIter s.heap.objs.size l 0 → (∀ b o, s.heap.get? b = some o → h'.get? b = some o) → Q (.ref (s.heap.objs.size + 1)) { s with heap := h' }) :
    wpAny (model prog w) A (call (.type "enumerate") [.ref l]) Q E s := by
  obtain ⟨o, hl, hc, hd⟩ := id hL
  refine callType_new F.called_enumerate (by decide) (F.typeCall_enumerate_1 _) (F.newCall_enumerate_1 _) (fun obj => F.args_object_init_2 obj _) F.entry_enumerate_new (meets_enum_tup l o items) ?_
  refine ⟨⟨hl, hc, hL⟩, ?_⟩
  have hz := Heap.size_push s.heap { cls := .type "tuple_iterator", data := .fields #[.ref l, .int 0 0] }
  have new := Heap.get?_push_size (s.heap.push { cls := .type "tuple_iterator", data := .fields #[.ref l, .int 0 0] }) (o := { cls := .type "enumerate", data := .fields #[.none, .bool false, .ref s.heap.objs.size, rawInt 0, .none, .none] }) rfl
  rw [hz] at new ⊢
  refine ⟨⟨_, new, rfl⟩, h _ new ⟨_, Heap.get?_push_of_some _ (Heap.get?_push_size _ rfl), rfl, rfl⟩ ?_⟩
  intro b ob x
  exact Heap.get?_push_of_some _ (Heap.get?_push_of_some _ x)
end
def IteT (K : PySem.W.Frag) (a : Addr) : It where
  go := fun i H => ∃ (xs : List V) (x : V), SqT K H a xs ∧ xs[i]? = some x
  yld := fun i H v H' => ∃ T x, v = .ref T ∧ H T = none ∧ H' = upd H T (.tup [.int (i : Nat), x]) ∧ ∀ xs, SqT K H a xs → xs[i]? = some x
  stop := fun i H => ∃ xs : List V, SqT K H a xs ∧ xs.length = i
theorem turn_enumT {P : Program} {w : World} {K : PySem.W.Frag} {elts : List Expr} {kk : Nat} {tpos : Pos} (a e it : Addr) (hai : a ≠ it) (hea : e ≠ a) :
    Turn P w K (.Tuple elts kk tpos) (IteT K a) [e, it] e (fun i h => (∃ old, IsEnum h e it ((i : Nat) : Int) old) ∧ h.IsTupleIter it a i ∧ e ≠ it) := by
  have two : ∀ b, b ∈ [e, it] → b = e ∨ b = it := fun b hb => by simpa using hb
  constructor
  case mem => simp
  case obj =>
    rintro i h ⟨⟨old, he⟩, ⟨o, ho, hc, hd⟩, _⟩ b hb
    rcases two b hb with z | z <;> subst z
    · exact ⟨_, he, fun v q => nomatch q⟩
    · exact ⟨o, ho, fun v q => by rw [hd] at q; cases q⟩
  case keep =>
    rintro i h h' ⟨⟨old, he⟩, hi, hne⟩ k
    exact ⟨⟨old, k e (by simp) _ he⟩, hi.at fun o q => k it (by simp) o q, hne⟩
  case item =>
    intro X hP hw hK hc i pins s σ H E I hf st hg
    subst hP hw hK
    obtain ⟨⟨old, he⟩, hit, hne⟩ := st
    obtain ⟨xs, x, hq, hx⟩ := hg
    obtain ⟨its, rv, p, hz⟩ := I.tuple hq
    obtain ⟨u, hu, ru⟩ := rv.get hx
    have hel : e < s.heap.objs.size := Heap.lt_size he
    have hil : it < s.heap.objs.size := by
      obtain ⟨_, q, _⟩ := hit
      exact Heap.lt_size q
    have Dr := Draws.tuple (prog := X.prog) (w := X.w) (A := X.A.in1) (I.ok.hd hc) it a hai its.toArray
    have lt : i < its.toArray.size := by
      have := (List.getElem?_eq_some_iff.mp hu).1
      simpa using this
    refine wpAny_pyNext_enum_itemD Dr he ⟨hit, p⟩ lt hne (by simp [hne, hea]) ?_
    intro y h' tk hy ho hst hT hsz hk
    have ey : y = u := by
      have hy' : its.toArray[i]? = some y := hy
      have hu' : its.toArray[i]? = some u := by simpa using hu
      rw [hu'] at hy'
      exact (Option.some.inj hy').symm
    subst ey
    refine ⟨_, rfl, wpAny_letOwnedTupleGo_enum (s := { s with heap := h', toks := tk + 1 }) ho fun h'' he' sb => ?_⟩
    have hT2 := (sb.2 _ (Nat.ne_of_gt hel)).trans hT
    have new : ObjOk X.prog X.w (upd H s.heap.objs.size (.tup [.int (i : Nat), x])) h'' s.heap.objs.size (.tup [.int (i : Nat), x]) :=
      ⟨by show 2 ≤ sizeLine; decide, [.int i tk, y], .cons ⟨_, rfl⟩ (.cons ru .nil), ⟨_, hT2, rfl, _, rfl⟩⟩
    have I1 : Inv X pins σ (upd H s.heap.objs.size (.tup [.int (i : Nat), x])) { s with heap := h'', toks := tk + 1 } := by
      refine I.turnedNew (ch := [e, it]) (fun b ob hb q => ?_) hf (Nat.le_refl _) new
      exact (sb.2 b (fun z => hb (by simp [z]))).trans (hk b ob (fun z => hb (by simp [z])) (fun z => hb (by simp [z])) q)
    refine ⟨.ref s.heap.objs.size, _, I1, rfl, ⟨_, x, rfl, I.hok.fresh (Nat.le_refl _), rfl, ?_⟩, ⟨⟨y, ?_⟩, hst.1.at fun o q => (sb.2 it (Ne.symm hne)).trans q, hne⟩, ?_⟩
    · intro ys hy2
      rw [I.tuple_inj hy2 hq]
      exact hx
    · rw [show ((i + 1 : Nat) : Int) = (i : Int) + 1 by omega]
      exact he'
    · intro b hb
      have hb' : b < s.heap.objs.size := by
        rcases two b hb with z | z <;> (rw [z]; assumption)
      rw [upd_ne (Nat.ne_of_lt hb')]
      exact (hf b hb).1
  case done =>
    intro X hP hw hK hc i pins s σ H E I hf st hg
    subst hP hw hK
    obtain ⟨⟨old, he⟩, hit, hne⟩ := st
    obtain ⟨xs, hq, hx⟩ := hg
    obtain ⟨its, rv, p, hz⟩ := I.tuple hq
    obtain ⟨f0, f1, f2, f3, f4, f5⟩ := hf it (by simp)
    have fin : ∀ h', Heap.ExtBut it s.heap h' → Inv X pins σ H { s with heap := h' } := fun h' eb => I.turned (t' := s.toks) (fun b o hb q => eb b o hb q) f0 f1 f3 f4 f5
    have Dr := Draws.tuple (prog := X.prog) (w := X.w) (A := X.A.in1) (I.ok.hd hc) it a hai its.toArray
    have ei : i = its.toArray.size := by
      have := rv.length
      simp
      omega
    rw [ei] at hit
    exact wpAny_pyNext_enum_endD Dr he ⟨hit, p⟩ fun h' eb => ⟨rfl, fin h' eb⟩
  case self => exact fun A i s Q E st h => let ⟨⟨_, he⟩, _⟩ := st; wpAny_pyIter_enum he h
def iEnumT (K : PySem.W.Frag) (ta : TA) : TI := fun σ H Rr => ta σ H fun vs H1 => ∃ a xs, vs = [.ref a] ∧ SqT K H1 a xs ∧ Rr (IteT K a) H1
theorem pi_enumT {X : Cx} {e : Expr} {ta : TA} {p pos tpos : Pos} {elts : List Expr} {kk : Nat} (hg : Gl X "enumerate") (hm : X.mg "enumerate" = none) (ha : PA X [e] ta) (hs : starEach [e] X.env = [(false, eval e X.env)] := by rfl) :
    PI X (.Tuple elts kk tpos) (.Call (.Name "enumerate" p) [e] [] pos) (iEnumT X.K ta) := by
  constructor
  intro pins s σ H Rr I h
  refine Call_ (ld_blt I hg hm boot_enumerate (PyProof.Rows.callWith_type1 (thn (ha.run pos pins s σ H _ I h) ?_) hs rfl))
  rintro us s1 ⟨vs, H1, I1, r1, a, xs, ex, hq, q⟩
  subst ex
  obtain ⟨u, eu, ru⟩ := vals1 r1
  subst eu
  have eu2 : u = .ref a := ru
  subst eu2
  obtain ⟨its, rv, pt, hz⟩ := I1.tuple hq
  have hlt : a < s1.heap.objs.size := by
    obtain ⟨o, ho, _⟩ := pt
    exact Heap.lt_size ho
  refine call_enum_tup pt fun h' he hit hk => wpAny_pyIter_enum he ?_
  have I2 : Inv X pins σ H1 { s1 with heap := h' } := I1.kept (t' := s1.toks) hk
  refine ⟨s1.heap.objs.size + 1, [s1.heap.objs.size + 1, s1.heap.objs.size], _, _, H1, rfl, I2, turn_enumT a (s1.heap.objs.size + 1) s1.heap.objs.size (Nat.ne_of_lt hlt) (Nat.ne_of_gt (Nat.lt_succ_of_lt hlt)), ⟨⟨.none, he⟩, hit, Nat.succ_ne_self _⟩, ?_, q⟩
  intro b hb
  have hle : s1.heap.objs.size ≤ b := by
    rcases (show b = s1.heap.objs.size + 1 ∨ b = s1.heap.objs.size by simpa using hb) with z | z
    · rw [z]; exact Nat.le_succ _
    · rw [z]; exact Nat.le_refl _
  exact I1.fpOk hle (I1.hok.fresh hle)
section
variable {c : Cn} {K : PySem.W.Frag} {ds : DS} {pl : List D} {tr : TA} {t : TS} {E : EE}
theorem ws_forET {j1 j2 : Nat} (I : Nat → DS → List D → Prop) (xs : List D) (h : WA c tr ds pl fun ys p1 => ys = [.tuple xs] ∧ I 0 ds p1)
    (hs : ∀ (i : Nat) x ds' pl', xs[i]? = some x → I i ds' pl' → WS c t ((ds'.set j1 (some (.d (.int i)))).set j2 (some (.d x))) pl' { nx := I (i + 1), ct := I (i + 1), bk := E.nx, rt := E.rt }) (hd : ∀ ds' pl', I xs.length ds' pl' → E.nx ds' pl') :
    WS c (tFor (iEnumT K tr) (gTup K 2 (gCons (gName j1) (gCons (gName j2) gNil))) t) ds pl E := fun G σ H h0 D' f => h G σ H h0 _ fun vs G1 H1 ys p1 h1 e1 f1 ⟨ey, g1⟩ => by
  subst ey
  obtain ⟨v, rfl, r⟩ := ra1 f1
  cases r with
  | @tup a us _ a1 b1 =>
  refine ⟨a, us, rfl, SqT.of (h1.sub _ _ a1), fun i m σ' H' => m = us.length - i ∧ i ≤ us.length ∧ ∃ G' ds' pl', HS c G' σ' H' ds' pl' ∧ Ex G1 G' ∧ I i ds' pl', ⟨us.length, by simp, Nat.zero_le _, G1, ds, p1, h1, Ex.refl _, g1⟩, ?_⟩
  rintro i m σ' H' ⟨rfl, hi, G', ds', pl', h2, e2, g2⟩
  have sq : SqT K H' a us := SqT.of (h2.sub _ _ (e2 _ _ a1))
  by_cases hlt : i < us.length
  · refine .inr ⟨⟨us, us[i], sq, by simp [hlt]⟩, fun σ3 H3 => ∃ G3 ds3 pl3, HS c G3 σ3 H3 ds3 pl3 ∧ Ex G1 G3 ∧ I (i + 1) ds3 pl3, fun σ3 H3 q => ⟨us.length - (i + 1), by omega, rfl, hlt, q⟩, ?_⟩
    rintro x H3 ⟨T, y, rfl, hT, rfl, hy⟩
    have hy2 := hy us sq
    obtain ⟨d, hd1, hd2⟩ := b1.get' hy2
    refine ⟨T, _, rfl, SqT.of upd_same, rfl, _, _, rfl, _, _, rfl, rfl, ?_⟩
    have n := h2.none_of hT
    have e3 : Ex G' (upd G' T (.tup [.int (i : Nat), y])) := Ex.new n.1
    have hN := ((h2.newD (o := .tup [.int (i : Nat), y]) hT).set (i := j1) (w := .d (.int i)) (R.int _) fun xs z => by cases z).set (i := j2) (w := .d d) (R.up hd2 (e2.trans e3)) fun xs z => by cases z
    refine hs i d ds' pl' hd1 g2 _ _ _ hN _ ⟨?_, ?_, ?_, ?_⟩
    · exact fun G4 σ4 H4 ds4 pl4 h4 e4 g4 => ⟨G4, ds4, pl4, h4, (e2.trans e3).trans e4, g4⟩
    · exact fun v G4 σ4 H4 ds4 w4 pl4 h4 e4 q4 g4 => f.rt v G4 σ4 H4 ds4 w4 pl4 h4 (e1.trans ((e2.trans e3).trans e4)) q4 g4
    · exact fun G4 σ4 H4 ds4 pl4 h4 e4 g4 => f.nx G4 σ4 H4 ds4 pl4 h4 (e1.trans ((e2.trans e3).trans e4)) g4
    · exact fun G4 σ4 H4 ds4 pl4 h4 e4 g4 => ⟨G4, ds4, pl4, h4, (e2.trans e3).trans e4, g4⟩
  · have ei : i = us.length := by omega
    subst ei
    rw [b1.len] at g2
    exact .inl ⟨⟨us, sq, rfl⟩, f.nx G' σ' H' ds' pl' h2 (e1.trans e2) (hd _ _ g2)⟩
theorem ws_forEL {j1 j2 : Nat} (I : Nat → DS → List D → Prop) (xs : List D) (h : WA c tr ds pl fun ys p1 => ys = [.list xs] ∧ I 0 ds p1)
    (hs : ∀ (i : Nat) x ds' pl', xs[i]? = some x → I i ds' pl' → WS c t ((ds'.set j1 (some (.d (.int i)))).set j2 (some (.d x))) pl' { nx := I (i + 1), ct := I (i + 1), bk := E.nx, rt := E.rt }) (hd : ∀ ds' pl', I xs.length ds' pl' → E.nx ds' pl') :
    WS c (tFor (iEnum K tr) (gTup K 2 (gCons (gName j1) (gCons (gName j2) gNil))) t) ds pl E := fun G σ H h0 D' f => h G σ H h0 _ fun vs G1 H1 ys p1 h1 e1 f1 ⟨ey, g1⟩ => by
  subst ey
  obtain ⟨v, rfl, r⟩ := ra1 f1
  cases r with
  | @lst a us _ a1 b1 =>
  refine ⟨a, us, rfl, SqL.of (h1.sub _ _ a1), fun i m σ' H' => m = us.length - i ∧ i ≤ us.length ∧ ∃ G' ds' pl', HS c G' σ' H' ds' pl' ∧ Ex G1 G' ∧ I i ds' pl', ⟨us.length, by simp, Nat.zero_le _, G1, ds, p1, h1, Ex.refl _, g1⟩, ?_⟩
  rintro i m σ' H' ⟨rfl, hi, G', ds', pl', h2, e2, g2⟩
  have sq : SqL K H' a us := SqL.of (h2.sub _ _ (e2 _ _ a1))
  by_cases hlt : i < us.length
  · refine .inr ⟨⟨us, us[i], sq, by simp [hlt]⟩, fun σ3 H3 => ∃ G3 ds3 pl3, HS c G3 σ3 H3 ds3 pl3 ∧ Ex G1 G3 ∧ I (i + 1) ds3 pl3, fun σ3 H3 q => ⟨us.length - (i + 1), by omega, rfl, hlt, q⟩, ?_⟩
    rintro x H3 ⟨T, y, rfl, hT, rfl, hy⟩
    have hy2 := hy us sq
    obtain ⟨d, hd1, hd2⟩ := b1.get' hy2
    refine ⟨T, _, rfl, SqT.of upd_same, rfl, _, _, rfl, _, _, rfl, rfl, ?_⟩
    have n := h2.none_of hT
    have e3 : Ex G' (upd G' T (.tup [.int (i : Nat), y])) := Ex.new n.1
    have hN := ((h2.newD (o := .tup [.int (i : Nat), y]) hT).set (i := j1) (w := .d (.int i)) (R.int _) fun xs z => by cases z).set (i := j2) (w := .d d) (R.up hd2 (e2.trans e3)) fun xs z => by cases z
    refine hs i d ds' pl' hd1 g2 _ _ _ hN _ ⟨?_, ?_, ?_, ?_⟩
    · exact fun G4 σ4 H4 ds4 pl4 h4 e4 g4 => ⟨G4, ds4, pl4, h4, (e2.trans e3).trans e4, g4⟩
    · exact fun v G4 σ4 H4 ds4 w4 pl4 h4 e4 q4 g4 => f.rt v G4 σ4 H4 ds4 w4 pl4 h4 (e1.trans ((e2.trans e3).trans e4)) q4 g4
    · exact fun G4 σ4 H4 ds4 pl4 h4 e4 g4 => f.nx G4 σ4 H4 ds4 pl4 h4 (e1.trans ((e2.trans e3).trans e4)) g4
    · exact fun G4 σ4 H4 ds4 pl4 h4 e4 g4 => ⟨G4, ds4, pl4, h4, (e2.trans e3).trans e4, g4⟩
  · have ei : i = us.length := by omega
    subst ei
    rw [b1.len] at g2
    exact .inl ⟨⟨us, sq, Nat.le_refl _⟩, f.nx G' σ' H' ds' pl' h2 (e1.trans e2) (hd _ _ g2)⟩
end
end PD

/-! PD6: defs by name; operators of several kinds -/
namespace PD
open PySem PySem.Spec PyProof.Rows L2 Evl

def Here (K : PySem.W.Frag) (mg : Str → Option Value) (name : Str) (st : Stmt) (ps : List Str) (f : Addr) (fd : FuncData) : Prop := Fun K name name st f fd ∧ mg name = some (.ref f) ∧ Binds K fd ps []
def At0 (K : PySem.W.Frag) (f : Addr) (fd : FuncData) : Prop := ∃ (oc : Value) (od : Option Addr) (osl : Array (Option Value)), K.lookup f = some ⟨oc, od, .func fd, osl⟩
def Df (P : Program) (w : World) (K : PySem.W.Frag) (mg : Str → Option Value) (base : Heap) (k : Nat) (name : Str) (ps : List Str) (sp : Sp) : Prop :=
  ∃ f fd, FG P w K mg base k f fd ps sp ∧ mg name = some (.ref f) ∧ PySem.W.keepIn K (.ref f) = true ∧ Binds K fd ps [] ∧ At0 K f fd
section
variable {P : Program} {w : World} {K : PySem.W.Frag} {mg : Str → Option Value} {base : Heap} {k : Nat} {name : Str} {ps : List Str} {sp : Sp} {f : Addr} {fd : FuncData} {st : Stmt}
theorem Here.df (h : Here K mg name st ps f fd) (g : FG P w K mg base k f fd ps sp) : Df P w K mg base k name ps sp := ⟨f, fd, g, h.2.1, h.1.kp, h.2.2, by
  obtain ⟨oc, od, kV, doc, pm, an, cdv, ct, osl, rfl, lk, _⟩ := h.1.ex
  exact ⟨oc, od, osl, lk⟩⟩
end
section
variable {X : Cx} {k : Nat} {ps : List Str} {sp : Sp} {E : XK} {x : Str} {p pos : Pos} {e : Expr} {es : List Expr} {t : TA}
theorem pe_callD (F : Df X.prog X.w X.K X.mg X.base k x ps sp) (hG : X.A.guards = some []) (hr : Room k X.A) (hg : Gl X x) (ha : PA X (e :: es) t)
    (hdb : (x == ("__debug__" : Str)) = false := by decide) (he : starEach (e :: es) X.env = (false, eval e X.env) :: starEach es X.env := by rfl)
    (hpl : (backTo pos (starEach es X.env)).any (·.1) = false := by rfl) : PE X (.Call (.Name x p) (e :: es) [] pos) (tCall sp [] E0 t) := by
  obtain ⟨f, fd, G, m, kp, b, _⟩ := F
  exact pe_callG hG G hr hg m kp b ha hdb he hpl
end

/-! ### + of ints, of lists; * of ints, of a list and an int -/
def rAddU : R2 := fun x y H Q => rI0 (fun i j => .int (i + j)) x y H Q ∨ rCat x y H Q
def rMulU : R2 := fun x y H Q => rI CMulW (fun i j => .int (i * j)) x y H Q ∨ rRep x y H Q
def rEqU (K : PySem.W.Frag) : R2 := fun x y H Q => rEqD K x y H Q ∨ rEq x y H Q
def rNeU (K : PySem.W.Frag) : R2 := fun x y H Q => rNeD K x y H Q ∨ rNe x y H Q
section
variable {X : Cx}
theorem op_eqU (hu : X.A.units + 64 < cLine) : OpR X (compareOp .Eq) (rEqU X.K) := (op_eqD hu).or op_eq
theorem op_neU (hu : X.A.units + 64 < cLine) : OpR X (compareOp .NotEq) (rNeU X.K) := (op_neD hu).or op_ne
theorem op_addU : OpR X (binaryOp .Add) rAddU := op_add.or op_cat
theorem op_mulU : OpR X (binaryOp .Mult) rMulU := op_mulW.or op_rep
end
section
variable {c : Cn} {K : PySem.W.Frag} {ds : DS} {pl : List D} {Φ : W → List D → Prop} {ta tb te : TE} {tr : TA}
theorem os_addI {i j : Int} {p2 : List D} (h : Φ (.d (.int (i + j))) p2) : OpS c rAddU ds (.int i) (.int j) p2 Φ := fun G σ H v u hs hv hu Q q => .inl (os_I0 (g := fun i j => .int (i + j)) rfl h G σ H v u hs hv hu Q q)
theorem os_addL {xs ys : List D} {p2 : List D} (hl : xs.length + ys.length ≤ sizeLine) (h : Φ (.d (.list (xs ++ ys))) p2) : OpS c rAddU ds (.list xs) (.list ys) p2 Φ := fun G σ H v u hs hv hu Q q => .inr (os_cat hl h G σ H v u hs hv hu Q q)
theorem os_mulI {i j : Int} {p2 : List D} (hc : CMulW i j) (h : Φ (.d (.int (i * j))) p2) : OpS c rMulU ds (.int i) (.int j) p2 Φ := fun G σ H v u hs hv hu Q q => .inl (os_I (g := fun i j => .int (i * j)) hc rfl h G σ H v u hs hv hu Q q)
def repD (xs : List D) (k : Nat) : List D := (List.replicate k xs).flatten
theorem RA.rep {G : Hp} {vs : List V} {xs : List D} (h : RA G vs xs) : ∀ k : Nat, RA G (List.replicate k vs).flatten (repD xs k)
  | 0 => .nil
  | k + 1 => by
    unfold repD
    rw [List.replicate_succ, List.replicate_succ, List.flatten_cons, List.flatten_cons]
    exact h.app (RA.rep h k)
theorem os_sub {i j : Int} {p2 : List D} (h : Φ (.d (.int (i - j))) p2) : OpS c (rI0 fun i j => .int (i - j)) ds (.int i) (.int j) p2 Φ := os_I0 (g := fun i j => .int (i - j)) rfl h
theorem os_mod {i j : Int} {p2 : List D} (hc : 0 < j) (h : Φ (.d (.int (i % j))) p2) : OpS c (rI (fun _ j => 0 < j) fun i j => .int (i % j)) ds (.int i) (.int j) p2 Φ := os_I (C := fun _ j => 0 < j) (g := fun i j => .int (i % j)) hc rfl h
theorem os_fdiv {i j : Int} {p2 : List D} (hc : CDivW i j) (h : Φ (.d (.int (i / j))) p2) : OpS c (rI CDivW fun i j => .int (i / j)) ds (.int i) (.int j) p2 Φ := os_I (g := fun i j => .int (i / j)) hc rfl h
theorem os_pow {i j : Int} {p2 : List D} (hc : CPowW i j) (h : Φ (.d (.int (i ^ j.toNat))) p2) : OpS c (rI CPowW fun i j => .int (i ^ j.toNat)) ds (.int i) (.int j) p2 Φ := os_I (g := fun i j => .int (i ^ j.toNat)) hc rfl h
theorem os_lt {i j : Int} {p2 : List D} (h : Φ (.d (.bool (decide (i < j)))) p2) : OpS c (rI0 fun i j => .bl (decide (i < j))) ds (.int i) (.int j) p2 Φ := os_I0 (g := fun i j => .bl (decide (i < j))) rfl h
theorem os_le {i j : Int} {p2 : List D} (h : Φ (.d (.bool (decide (i ≤ j)))) p2) : OpS c (rI0 fun i j => .bl (decide (i ≤ j))) ds (.int i) (.int j) p2 Φ := os_I0 (g := fun i j => .bl (decide (i ≤ j))) rfl h
theorem os_gt {i j : Int} {p2 : List D} (h : Φ (.d (.bool (decide (j < i)))) p2) : OpS c (rI0 fun i j => .bl (decide (j < i))) ds (.int i) (.int j) p2 Φ := os_I0 (g := fun i j => .bl (decide (j < i))) rfl h
theorem os_ge {i j : Int} {p2 : List D} (h : Φ (.d (.bool (decide (j ≤ i)))) p2) : OpS c (rI0 fun i j => .bl (decide (j ≤ i))) ds (.int i) (.int j) p2 Φ := os_I0 (g := fun i j => .bl (decide (j ≤ i))) rfl h
theorem os_eqUD {x y : D} {p2 : List D} (h1 : SeqAt.shaped x = true) (h2 : SeqAt.shaped y = true) (h : Φ (.d (.bool (PyData.eqv x y))) p2) : OpS c (rEqU K) ds x y p2 Φ := fun G σ H v u hs hv hu Q q => .inl (os_eqD h1 h2 h G σ H v u hs hv hu Q q)
theorem os_neUD {x y : D} {p2 : List D} (h1 : SeqAt.shaped x = true) (h2 : SeqAt.shaped y = true) (h : Φ (.d (.bool (!PyData.eqv x y))) p2) : OpS c (rNeU K) ds x y p2 Φ := fun G σ H v u hs hv hu Q q => .inl (os_neD h1 h2 h G σ H v u hs hv hu Q q)
theorem os_eqI {i j : Int} {p2 : List D} (h : Φ (.d (.bool (decide (i = j)))) p2) : OpS c (rEqU K) ds (.int i) (.int j) p2 Φ := fun G σ H v u hs hv hu Q q => .inr (by
  rw [hv.int, hu.int]
  refine ⟨rfl, ?_⟩
  have e : decide (V.int i = V.int j) = decide (i = j) := by rw [decide_eq_decide]; exact ⟨fun z => V.int.inj z, fun z => by rw [z]⟩
  rw [e]
  exact q _ G H (.d _) p2 hs (Ex.refl _) (R.bl _) h)
theorem os_neI {i j : Int} {p2 : List D} (h : Φ (.d (.bool (!decide (i = j)))) p2) : OpS c (rNeU K) ds (.int i) (.int j) p2 Φ := fun G σ H v u hs hv hu Q q => .inr (by
  rw [hv.int, hu.int]
  refine ⟨rfl, ?_⟩
  have e : decide (V.int i = V.int j) = decide (i = j) := by rw [decide_eq_decide]; exact ⟨fun z => V.int.inj z, fun z => by rw [z]⟩
  rw [e]
  exact q _ G H (.d _) p2 hs (Ex.refl _) (R.bl _) h)
theorem we_lenO {i : Nat} {xs : List D} (hi : ds[i]? = some (some (.o xs))) (h : Φ (.d (.int xs.length)) pl) : WE c (tCB (rLenQ K) (tCons (tVar i) tNil)) ds pl Φ := fun G σ H hs Q q => by
  obtain ⟨v, e1, p, vs, rfl, b1, b2, _⟩ := hs.slots i _ hi
  refine ⟨_, e1, p, vs, rfl, .inl (SqL.of b1), ?_⟩
  rw [b2.len]
  exact q _ G H (.d _) pl hs (Ex.refl _) (R.int _) h
mutual
theorem eqv_refl : ∀ d : D, d.canLay0 = true → PyData.eqv d d = true
  | .none, _ => rfl
  | .bool b, _ => by show (b == b) = true; simp
  | .int i, _ => by show (i == i) = true; simp
  | .str x, _ => by show (x == x) = true; simp
  | .list xs, h => eqvA_refl xs (by simpa only [PyData.canLay0] using h)
  | .tuple xs, h => eqvA_refl xs (by simpa only [PyData.canLay0] using h)
  | .dict _, h => by simp [PyData.canLay0] at h
theorem eqvA_refl : ∀ ds : List D, PyData.canLayAll0 ds = true → PyData.eqvAll ds ds = true
  | [], _ => rfl
  | d :: ds, h => by
    have h' : d.canLay0 = true ∧ PyData.canLayAll0 ds = true := by simpa only [PyData.canLayAll0, Bool.and_eq_true] using h
    show (PyData.eqv d d && PyData.eqvAll ds ds) = true
    rw [eqv_refl d h'.1, eqvA_refl ds h'.2]
    rfl
end
theorem os_eqS {x : D} {p2 : List D} (h1 : okD 20 x) (h : Φ (.d (.bool true)) p2) : OpS c (rEqU K) ds x x p2 Φ := os_eqUD (shaped_of h1) (shaped_of h1) (by rw [eqv_refl x (fine_of h1).lay]; exact h)
theorem os_neS {x : D} {p2 : List D} (h1 : okD 20 x) (h : Φ (.d (.bool false)) p2) : OpS c (rNeU K) ds x x p2 Φ := os_neUD (shaped_of h1) (shaped_of h1) (by rw [eqv_refl x (fine_of h1).lay]; exact h)
end
end PD

/-! PD7: comprehensions over zip, enumerate; all, any; is of bools; calls with keywords; extend, pop -/
namespace PD
open PySem PySem.Spec PyProof.Rows L2 Evl
section
variable {c : Cn} {K : PySem.W.Frag} {ds : DS} {pl : List D} {Φ : W → List D → Prop} {ta tb te : TE} {tr : TA} {tt : TT} {G H : Hp} {σ : L2.St}
theorem lc_turnG (J : Nat → List D → List D → Prop) {σI : L2.St} {dsI : DS} {G1 G' G2 H' H2 : Hp} {Dl : Addr} {i : Nat} {pl' acc : List D} {us : List V} (f : DF c σ ds Dl) (f2 : DF c σI dsI Dl)
    (same : ∀ (i : Nat) (xs : List D), ds[i]? = some (some (W.o xs)) → dsI[i]? = some (some (W.o xs)) ∧ σI[i]? = σ[i]?)
    (h : HS c G' σ H' ds pl') (hw : HS c G2 σI H2 dsI pl') (e1 : Ex G1 G') (e2 : Ex G' G2) (hD : H2 Dl = some (.lst us)) (gD : G2 Dl = none) (ra : RA G' us acc)
    (user : ∀ pin, WT { c with pin := pin } tt dsI pl' fun b p2 => if b = true then WE { c with pin := pin } te dsI p2 (isD fun y p3 => acc.length < sizeLine ∧ J (i + 1) (acc ++ [y]) p3) else J (i + 1) acc p2) :
    J i acc pl' → tt σI H2 fun b H3 => if b = true then te σI H3 fun y H4 => ∃ acc, H4 Dl = some (.lst acc) ∧ acc.length < sizeLine ∧ PvC c σ ds G1 Dl J (i + 1) (upd H4 Dl (.lst (acc ++ [y]))) else PvC c σ ds G1 Dl J (i + 1) H3 := by
  intro hJ
  refine user _ G2 _ H2 (hw.to_with f2 hD gD) _ fun b G3 H3 p2 h3 e3 g2 => ?_
  cases b with
  | true =>
    refine (show WE _ te _ p2 _ from g2) G3 _ H3 h3 _ fun y G4 H4 w p3 h4 e4 f4 g3 => ?_
    match w, f4, g3 with
    | .d z, f4, ⟨g3, g4⟩ =>
      have up := e2.trans (e3.trans e4)
      have b3 := h.back f h4 up same
      have dD : G4 Dl = none := h4.gn Dl _ with_at
      exact ⟨us, h4.pin Dl _ with_at, by rw [ra.len]; exact g3, G4, p3, acc ++ [z], us ++ [y], b3.push f dD, e1.trans up, upd_same, (ra.up up).app (.cons f4 .nil), dD, g4⟩
  | false =>
    have up := e2.trans e3
    exact ⟨G3, p2, acc, us, h.back f h3 up same, e1.trans up, h3.pin Dl _ with_at, ra.up up, h3.gn Dl _ with_at, g2⟩
theorem two_slots {j1 j2 : Nat} {Dl : Addr} {v1 v2 : V} {d1 d2 : D} (f : DF c σ ds Dl) (hj : ∀ (xs : List D), ds[j1]? ≠ some (some (W.o xs)) ∧ ds[j2]? ≠ some (some (W.o xs))) :
    DF c (((L2.wipe σ [j1, j2]).set j1 (some v1)).set j2 (some v2)) (((wipeD ds [j1, j2]).set j1 (some (.d d1))).set j2 (some (.d d2))) Dl ∧
    ∀ (i : Nat) (xs : List D), ds[i]? = some (some (W.o xs)) → (((wipeD ds [j1, j2]).set j1 (some (.d d1))).set j2 (some (.d d2)))[i]? = some (some (W.o xs)) ∧ (((L2.wipe σ [j1, j2]).set j1 (some v1)).set j2 (some v2))[i]? = σ[i]? := by
  have out : ∀ {i : Nat}, j1 ≠ i → j2 ≠ i → i ∉ [j1, j2] := fun a b z => by
    rcases List.mem_cons.mp z with z | z
    · exact a z.symm
    · exact b (List.mem_singleton.mp z).symm
  have vals : ∀ {i : Nat} {xs : List D}, (((wipeD ds [j1, j2]).set j1 (some (.d d1))).set j2 (some (.d d2)))[i]? = some (some (W.o xs)) → j1 ≠ i ∧ j2 ≠ i := fun {i xs} q => by
    have hlt := (List.getElem?_eq_some_iff.mp q).1
    rw [List.length_set, List.length_set] at hlt
    refine ⟨fun e => ?_, fun e => ?_⟩
    · subst e
      by_cases e2 : j2 = j1
      · subst e2
        rw [List.getElem?_set_self (by rw [List.length_set]; exact hlt)] at q
        cases q
      · rw [List.getElem?_set_ne e2, List.getElem?_set_self hlt] at q
        cases q
    · subst e
      rw [List.getElem?_set_self (by rw [List.length_set]; exact hlt)] at q
      cases q
  refine ⟨⟨f.h0, f.pin, f.pool, f.hd, fun i xs p q1 q2 => ?_⟩, fun i xs q => ?_⟩
  · obtain ⟨n1, n2⟩ := vals q1
    rw [List.getElem?_set_ne n2, List.getElem?_set_ne n1, wipeD_ne (out n1 n2)] at q1
    rw [List.getElem?_set_ne n2, List.getElem?_set_ne n1, wipe_ne (out n1 n2)] at q2
    exact f.ne i xs p q1 q2
  · have n1 : j1 ≠ i := fun e => (hj xs).1 (e ▸ q)
    have n2 : j2 ≠ i := fun e => (hj xs).2 (e ▸ q)
    rw [List.getElem?_set_ne n2, List.getElem?_set_ne n1, wipeD_ne (out n1 n2), List.getElem?_set_ne n2, List.getElem?_set_ne n1, wipe_ne (out n1 n2)]
    exact ⟨q, rfl⟩
theorem wipe_set2 (σ : L2.St) (j1 j2 : Nat) (v1 v2 : V) : L2.wipe (((L2.wipe σ [j1, j2]).set j1 (some v1)).set j2 (some v2)) [j1, j2] = L2.wipe σ [j1, j2] := by
  show ((((σ.set j2 none).set j1 none).set j1 (some v1)).set j2 (some v2) |>.set j2 none |>.set j1 none) = (σ.set j2 none).set j1 none
  rw [List.set_set, List.set_set]
  by_cases e : j1 = j2
  · subst e; simp only [List.set_set]
  · rw [List.set_comm _ _ e, List.set_set, List.set_set]

theorem we_lcZ {j1 j2 : Nat} (J : Nat → List D → List D → Prop) (xs ys : List D) (hl : ys.length ≤ xs.length) (hj : ∀ (xs : List D), ds[j1]? ≠ some (some (W.o xs)) ∧ ds[j2]? ≠ some (some (W.o xs)))
    (h : WA c tr ds pl fun zs p1 => zs = [.list xs, .list ys] ∧ J 0 [] p1)
    (user : ∀ (i : Nat) x y acc pl', xs[i]? = some x → ys[i]? = some y → J i acc pl' → ∀ pin, WT { c with pin := pin } tt (((wipeD ds [j1, j2]).set j1 (some (.d x))).set j2 (some (.d y))) pl' fun b p2 =>
      if b = true then WE { c with pin := pin } te (((wipeD ds [j1, j2]).set j1 (some (.d x))).set j2 (some (.d y))) p2 (isD fun y p3 => acc.length < sizeLine ∧ J (i + 1) (acc ++ [y]) p3) else J (i + 1) acc p2)
    (hq : ∀ acc pl', J ys.length acc pl' → Φ (.d (.list acc)) pl') : WE c (tLc (iZip K tr) (gTup K 2 (gCons (gName j1) (gCons (gName j2) gNil))) tt te [j1, j2]) ds pl Φ := fun G σ H h0 Q q => h G σ H h0 _ fun vs G1 H1 zs p1 h1 e1 f1 ⟨ez, g1⟩ => by
  subst ez
  obtain ⟨v, u, rfl, r1, r2⟩ := ra2 f1
  cases r1 with
  | @lst a us1 _ a1 b1 =>
  cases r2 with
  | @lst b us2 _ a2 b2 =>
  refine ⟨a, b, us1, us2, rfl, SqL.of (h1.sub _ _ a1), SqL.of (h1.sub _ _ a2), fun Dl hD => ?_⟩
  have f := df_new h1 hD
  refine ⟨fun i m H' => m = us2.length - i ∧ i ≤ us2.length ∧ PvC c σ ds G1 Dl J i H', ⟨us2.length, by simp, Nat.zero_le _, pv_start J h1 hD g1⟩, ?_⟩
  rintro i m H' ⟨rfl, hi, p⟩
  obtain ⟨G', pl', acc, us, h2, e2, hD2, ra, gD, hJ⟩ := id p
  have sq1 : SqL K H' a us1 := SqL.of (h2.sub _ _ (e2 _ _ a1))
  have sq2 : SqL K H' b us2 := SqL.of (h2.sub _ _ (e2 _ _ a2))
  by_cases hlt : i < us2.length
  · have hlt1 : i < us1.length := by rw [b1.len]; rw [b2.len] at hlt; omega
    refine .inr ⟨⟨us1, us2, us1[i], us2[i], sq1, sq2, by simp [hlt1], by simp [hlt]⟩, PvC c σ ds G1 Dl J (i + 1), fun H3 q => ⟨us2.length - (i + 1), by omega, rfl, hlt, q⟩, ?_⟩
    rintro x H3 ⟨T, x1, x2, rfl, hT, rfl, y1, y2⟩
    obtain ⟨d1, hd1, hr1⟩ := b1.get' (y1 us1 sq1)
    obtain ⟨d2, hd2, hr2⟩ := b2.get' (y2 us2 sq2)
    have n := h2.none_of hT
    have e3 : Ex G' (upd G' T (.tup [x1, x2])) := Ex.new n.1
    refine ⟨T, _, rfl, SqT.of upd_same, rfl, _, _, rfl, _, _, rfl, rfl, wipe_set2 σ j1 j2 x1 x2, ?_⟩
    have hw := (((h2.newD (o := .tup [x1, x2]) hT).wipe [j1, j2]).set (i := j1) (w := .d d1) (R.up hr1 (e2.trans e3)) fun xs z => by cases z).set (i := j2) (w := .d d2) (R.up hr2 (e2.trans e3)) fun xs z => by cases z
    obtain ⟨f2, same⟩ := two_slots (v1 := x1) (v2 := x2) (d1 := d1) (d2 := d2) f hj
    refine lc_turnG J f f2 same h2 hw e2 e3 (by rw [upd_ne (ne_of_none hD2 hT)]; exact hD2) ?_ ra (fun pin => user i d1 d2 acc pl' hd1 hd2 hJ pin) hJ
    rw [upd_ne (ne_of_none hD2 hT)]
    exact gD
  · have ei : i = us2.length := by omega
    subst ei
    rw [b2.len] at p
    exact .inl ⟨⟨us1, us2, sq1, sq2, .inr (Nat.le_refl _)⟩, pv_end f p hq fun v G' H' w pl' h2 e2 f2 g2 => q v G' H' w pl' h2 (e1.trans e2) f2 g2⟩
theorem RA.bls {G : Hp} : ∀ {vs : List V} {bs : List Bool}, RA G vs (bs.map PyData.bool) → vs = bs.map V.bl
  | _, [], h => by cases h; rfl
  | _, n :: ns, h => by
    cases h with
    | cons a b =>
      cases a
      rw [List.map_cons, RA.bls b]
theorem cb_all {bs : List Bool} (h : Φ (.d (.bool (bs.all id))) pl) : CbS c (rAll K) ds [.list (bs.map PyData.bool)] pl Φ := fun G σ H vs hs f Q q => by
  obtain ⟨v, rfl, a⟩ := ra1 f
  cases a with
  | lst a b =>
    have e := b.bls
    subst e
    exact ⟨_, bs, rfl, SqL.of (hs.sub _ _ a), q _ G H (.d _) pl hs (Ex.refl _) (R.bl _) h⟩
/-! ### isinstance -/
def tyD : D → String
  | .none => "NoneType"
  | .bool _ => "bool"
  | .int _ => "int"
  | .str _ => "str"
  | .list _ => "list"
  | .tuple _ => "tuple"
  | .dict _ => "dict"
def isaN (T n : String) : Bool := T == n || (n == "bool" && T == "int")
def isaD (T : String) (d : D) : Bool := isaN T (tyD d)
def tyNames : List String := ["NoneType", "bool", "int", "str", "list", "tuple", "dict"]
theorem kitB_all : ∀ T ∈ (["int", "bool", "tuple", "list", "str"] : List String), ∀ n ∈ tyNames, kitB n T = some (isaN T n) := by decide +kernel
theorem tyD_mem (d : D) : tyD d ∈ tyNames := by cases d <;> simp [tyD, tyNames]
theorem kit_tyD {T : String} (hT : T ∈ (["int", "bool", "tuple", "list", "str"] : List String)) (d : D) : PySem.W.kitOne K (.type (tyD d)) (.type T) = some (isaD T d) := kit_ty (kitB_all T hT _ (tyD_mem d))
theorem tyX_of {v : V} {d : D} (h : RT G H v d) (s : Ex G H) : TyX K H v (.type (tyD d)) := by
  cases d with
  | none => rw [h.non]; exact .base .non
  | bool b => rw [h.bl]; exact .base (.bl b)
  | int i => rw [h.int]; exact .base (.int i)
  | str x => rw [h.str]; exact .base (.str x)
  | list xs =>
    obtain ⟨p, vs, rfl, a, b⟩ := h.list s
    exact .base (.lst a)
  | tuple xs =>
    obtain ⟨p, vs, rfl, a, b⟩ := h.tup s
    exact .base (.tup a)
  | dict kvs =>
    rcases h with h | ⟨_, _, _, _, e, _⟩
    · cases h
    · cases e
theorem we_isi {T : String} (hT : T ∈ (["int", "bool", "tuple", "list", "str"] : List String)) (ha : WE c ta ds pl (isS fun d p1 => Φ (.d (.bool (isaD T d))) p1)) : WE c (tCB (rIsi K) (tCons ta (tCons (tC (.ty T)) tNil))) ds pl Φ := fun G σ H hs Q q =>
  ha G σ H hs _ fun v G1 H1 w p1 h1 e1 f1 g1 => by
    match w, f1, g1 with
    | .d d, f1, g1 => exact ⟨v, .ty T, _, _, _, rfl, .ty T, tyX_of (.inl f1) h1.sub, kit_tyD hT d, q _ G1 H1 (.d _) p1 h1 e1 (R.bl _) g1⟩
    | .o xs, f1, g1 =>
      obtain ⟨p, us, ev, a2, a3, _⟩ := f1
      subst ev
      exact ⟨_, .ty T, _, _, _, rfl, .ty T, tyX_of (.inr ⟨p, us, xs, rfl, rfl, a2, a3⟩) h1.sub, kit_tyD hT (.list xs), q _ G1 H1 (.d _) p1 h1 e1 (R.bl _) g1⟩
end
end PD

/-! PD8: promises by a type of arguments -/
namespace PD
open PySem PySem.Spec PyProof.Rows L2 Evl
def rel {A : Type} (enc : A → List D) (pre : A → Prop) (post : A → D → Prop) : List D → (D → Prop) → Prop := fun ds k => ∃ a, ds = enc a ∧ pre a ∧ ∀ d, post a d → k d
def det {A : Type} (enc : A → List D) (pre : A → Prop) (res : A → D) : List D → (D → Prop) → Prop := fun ds k => ∃ a, ds = enc a ∧ pre a ∧ k (res a)
def newL {A : Type} (enc : A → List D) (pre : A → Prop) (res : A → List D) : List D → (List D → Prop) → Prop := fun ds k => ∃ a, ds = enc a ∧ pre a ∧ k (res a)
theorem rel_mono {A : Type} {enc : A → List D} {pre : A → Prop} {post : A → D → Prop} : ∀ xs k k', rel enc pre post xs k → (∀ d, k d → k' d) → rel enc pre post xs k' := fun _ _ _ ⟨a, e, p, h⟩ g => ⟨a, e, p, fun d q => g d (h d q)⟩
theorem det_mono {A : Type} {enc : A → List D} {pre : A → Prop} {res : A → D} : ∀ xs k k', det enc pre res xs k → (∀ d, k d → k' d) → det enc pre res xs k' := fun _ _ _ ⟨a, e, p, h⟩ g => ⟨a, e, p, g _ h⟩
theorem newL_mono {A : Type} {enc : A → List D} {pre : A → Prop} {res : A → List D} : ∀ xs k k', newL enc pre res xs k → (∀ d, k d → k' d) → newL enc pre res xs k' := fun _ _ _ ⟨a, e, p, h⟩ g => ⟨a, e, p, g _ h⟩
section
variable {c : Cn} {K : PySem.W.Frag} {ds : DS} {pl : List D} {Φ : W → List D → Prop} {tr : TA} {E : XK} {A : Type} {enc : A → List D} {pre : A → Prop}
theorem we_det {res : A → D} (a : A) (ha : WA c tr ds pl fun xs p1 => xs = enc a ∧ pre a ∧ Φ (.d (res a)) p1) : WE c (tCall (spP (det enc pre res)) [] E tr) ds pl Φ := we_call (ha.mono fun xs p1 ⟨e, p, h⟩ => ⟨a, e, p, h⟩) det_mono
theorem we_rel {post : A → D → Prop} (a : A) (ha : WA c tr ds pl fun xs p1 => xs = enc a ∧ pre a ∧ ∀ d, post a d → Φ (.d d) p1) : WE c (tCall (spP (rel enc pre post)) [] E tr) ds pl Φ := we_call (ha.mono fun xs p1 ⟨e, p, h⟩ => ⟨a, e, p, h⟩) rel_mono
theorem we_newL {res : A → List D} (a : A) (ha : WA c tr ds pl fun xs p1 => xs = enc a ∧ pre a ∧ Φ (.d (.list (res a))) p1) : WE c (tCall (spN (newL enc pre res)) [] E tr) ds pl Φ := we_callN (ha.mono fun xs p1 ⟨e, p, h⟩ => ⟨a, e, p, h⟩) newL_mono
section
variable {p2 r : List D} {x y z : D}
theorem os_t0 (h : Φ (.d x) p2) : OpS c (rIx K) ds (.tuple (x :: r)) (.int 0) p2 Φ := os_ix (by
  have : (((x :: r).length : Nat) : Int) = r.length + 1 := by simp
  show atI (x :: r) (((0 : Nat) : Int)) = some x
  exact atI_nat rfl) h
theorem os_t1 (h : Φ (.d y) p2) : OpS c (rIx K) ds (.tuple (x :: y :: r)) (.int 1) p2 Φ := os_ix (by
  show atI (x :: y :: r) (((1 : Nat) : Int)) = some y
  exact atI_nat rfl) h
theorem os_l0 (h : Φ (.d x) p2) : OpS c (rIx K) ds (.list (x :: r)) (.int 0) p2 Φ := os_ix (by
  show atI (x :: r) (((0 : Nat) : Int)) = some x
  exact atI_nat rfl) h
theorem os_l1 (h : Φ (.d y) p2) : OpS c (rIx K) ds (.list (x :: y :: r)) (.int 1) p2 Φ := os_ix (by
  show atI (x :: y :: r) (((1 : Nat) : Int)) = some y
  exact atI_nat rfl) h
theorem os_ln {xs : List D} {n : Nat} (hx : xs[n]? = some x) (h : Φ (.d x) p2) : OpS c (rIx K) ds (.list xs) (.int (n : Int)) p2 Φ := os_ix (atI_nat hx) h
end
end
theorem nox_K {CX : CXT} {P : Program} {w : World} {K : PySem.W.Frag} {mg : Str → Option Value} {base : Heap} {N : List Str} {qual : Str} {scope : Scope} {f : Addr} {cd : Value} {A : Around} {outer : List Env} {s : Shared} {H : Hp} {E : XK} :
  (cxOf CX P w K mg base N qual scope f cd A outer s H E).nox.K = K := rfl
theorem blk_K {X : Cx} {s : Shared} {H : Hp} {scope : Scope} {cenv : Env} {fp : List Addr} : (X.blk s H scope cenv fp).K = X.K := rfl
theorem iteV {b : Bool} {A B : Prop} (h : b = true) (k : A) : if b = true then A else B := by rw [if_pos h]; exact k
theorem iteN {b : Bool} {A B : Prop} (h : b = false) (k : B) : if b = true then A else B := by rw [h]; exact iteF k
theorem ws_unpN {c : Cn} {K : PySem.W.Frag} {ds : DS} {pl : List D} {te : TE} {E : EE} {i j n : Nat} (hn : n = 2) (h : WE c te ds pl (isD fun d p1 => ∃ x y, d = .tuple [x, y] ∧ E.nx ((ds.set i (some (.d x))).set j (some (.d y))) p1)) :
    WS c (tAsg te (gTup K n (gCons (gName i) (gCons (gName j) gNil)))) ds pl E := by subst hn; exact ws_unp h
theorem we_chain {c : Cn} {ds : DS} {pl : List D} {Φ : W → List D → Prop} {ta tb tc : TE} {a b c' : Int} (h1 : WE c ta ds pl fun w p => w = .d (.int a) ∧ p = pl) (h2 : WE c tb ds pl fun w p => w = .d (.int b) ∧ p = pl) (h3 : WE c tc ds pl fun w p => w = .d (.int c') ∧ p = pl)
    (h : Φ (.d (.bool (decide (a ≤ b) && decide (b ≤ c')))) pl) : WE c (tChain (rI0 fun i j => .bl (decide (i ≤ j))) (rI0 fun i j => .bl (decide (i ≤ j))) ta tb tc) ds pl Φ := fun G σ H hs Q q => by
  refine h1 G σ H hs _ ?_
  rintro v1 G1 H1 w1 p1 hs1 e1 f1 ⟨rfl, rfl⟩
  cases f1
  refine h2 G1 σ H1 hs1 _ ?_
  rintro v2 G2 H2 w2 p2 hs2 e2 f2 ⟨rfl, rfl⟩
  cases f2
  refine ⟨a, b, rfl, rfl, _, rfl, ?_⟩
  by_cases z : a ≤ b
  · have z' : decide (a ≤ b) = true := decide_eq_true z
    rw [z'] at h
    simp only [z', if_true]
    refine h3 G2 σ H2 hs2 _ ?_
    rintro v3 G3 H3 w3 p3 hs3 e3 f3 ⟨rfl, rfl⟩
    cases f3
    exact ⟨b, c', rfl, rfl, q _ G3 H3 (.d _) _ hs3 (e1.trans (e2.trans e3)) (R.bl _) h⟩
  · have z' : decide (a ≤ b) = false := decide_eq_false z
    rw [z'] at h
    simp only [z']
    exact q _ G2 H2 (.d (.bool false)) _ hs2 (e1.trans e2) (R.bl _) h
end PD

/-! PD9: the mathematics of combs and moves -/
namespace PD
open PySem PySem.Spec PyProof.Rows L2 Evl

def isWhole : D → Bool
  | .int _ => true
  | _ => false
def isPair : D → Bool
  | .tuple [_, _] => true
  | _ => false
def isWholePair : D → Bool
  | .tuple [.int _, .int _] => true
  | _ => false
def isPitch : D → Bool
  | .int p => decide (1 ≤ p ∧ p ≤ 24)
  | _ => false
structure Comb where
  p : Int
  ts : List Int
abbrev Comb.d (c : Comb) : D := .tuple [.int c.p, .list (c.ts.map PyData.int)]
structure Comb.Ok (c : Comb) : Prop where
  p1 : 1 ≤ c.p
  p24 : c.p ≤ 24
  ne : c.ts ≠ []
  low : ∀ t ∈ c.ts, 0 ≤ t
  high : ∀ t ∈ c.ts, t < c.p
  up : c.ts.Pairwise (· < ·)
abbrev Dv := Comb × Comb
abbrev Dv.d (v : Dv) : D := .tuple [v.1.d, v.2.d]
def Dv.Ok (v : Dv) : Prop := v.1.Ok ∧ v.2.Ok
abbrev Sv := Int × Int
abbrev Sv.d (s : Sv) : D := .tuple [.int s.1, .int s.2]
def caught (c : Comb) (n : Int) : Bool := decide (n % c.p ∈ c.ts)
def held (v : Dv) (s : Sv) : Bool := caught v.1 s.1 || caught v.2 (s.1 - s.2)
def IsBelow (c : Comb) (n b : Int) : Prop := b ≤ n ∧ caught c b = true ∧ ∀ m, b < m → m ≤ n → caught c m = false
theorem IsBelow.uniq {c : Comb} {n a b : Int} (ha : IsBelow c n a) (hb : IsBelow c n b) : a = b := by
  obtain ⟨a1, a2, a3⟩ := ha
  obtain ⟨b1, b2, b3⟩ := hb
  rcases Int.lt_trichotomy a b with h | h | h
  · have := a3 b h b1
    rw [b2] at this
    cases this
  · exact h
  · have := b3 a h a1
    rw [a2] at this
    cases this
def lowT (c : Comb) (r : Int) : List Int := c.ts.filter fun t => decide (t ≤ r)
def flo (c : Comb) (n : Int) : Int := if lowT c (n % c.p) = [] then n - n % c.p - c.p + c.ts.getLastD 0 else n - n % c.p + (lowT c (n % c.p)).getLastD 0
theorem last_mem : ∀ {l : List Int}, l ≠ [] → l.getLastD 0 ∈ l
  | [], h => absurd rfl h
  | [a], _ => by simp
  | a :: b :: r, _ => by
    have ih := last_mem (l := b :: r) (by simp)
    have e : (a :: b :: r).getLastD 0 = (b :: r).getLastD 0 := by simp [List.getLastD_cons]
    rw [e]
    exact List.mem_cons_of_mem _ ih
theorem last_max : ∀ {l : List Int} {x : Int}, l.Pairwise (· < ·) → x ∈ l → x ≤ l.getLastD 0
  | [], _, _, h => by cases h
  | [a], x, _, h => by
    have := List.mem_singleton.mp h
    subst this
    simp
  | a :: b :: r, x, hp, h => by
    have e : (a :: b :: r).getLastD 0 = (b :: r).getLastD 0 := by simp [List.getLastD_cons]
    rw [e]
    obtain ⟨h1, h2⟩ := List.pairwise_cons.mp hp
    rcases List.mem_cons.mp h with z | z
    · subst z
      exact Int.le_of_lt (h1 _ (last_mem (by simp)))
    · exact last_max h2 z
theorem mod_of {p b t : Int} (h0 : 0 ≤ t) (h1 : t < p) (k : Int) (hb : b = p * k + t) : b % p = t := by
  rw [hb, Int.add_comm, Int.add_mul_emod_self_left]
  exact Int.emod_eq_of_lt h0 h1
theorem flo_spec {c : Comb} (ok : c.Ok) (n : Int) : IsBelow c n (flo c n) := by
  have hp : 0 < c.p := by have := ok.p1; omega
  have r0 := Int.emod_nonneg n (show c.p ≠ 0 by omega)
  have r1 := Int.emod_lt_of_pos n hp
  have hb : n = c.p * (n / c.p) + n % c.p := (Int.mul_ediv_add_emod n c.p).symm
  have res : ∀ m s : Int, ∀ k : Int, m = c.p * k + s → 0 ≤ s → s < c.p → caught c m = decide (s ∈ c.ts) := fun m s k e a b => by
    unfold caught
    rw [mod_of a b k e]
  generalize n % c.p = r at r0 r1 hb
  generalize n / c.p = q at hb
  unfold flo
  have er : n % c.p = r := by rw [hb]; rw [Int.add_comm, Int.add_mul_emod_self_left]; exact Int.emod_eq_of_lt r0 r1
  rw [er]
  by_cases hl : lowT c r = []
  · rw [if_pos hl]
    have none_low : ∀ t ∈ c.ts, r < t := fun t ht => by
      by_cases z : t ≤ r
      · have : t ∈ lowT c r := List.mem_filter.mpr ⟨ht, decide_eq_true z⟩
        rw [hl] at this
        cases this
      · omega
    have lm := last_mem ok.ne
    have l0 := ok.low _ lm
    have l1 := ok.high _ lm
    have mul1 : c.p * (q - 1) = c.p * q - c.p := by rw [Int.mul_sub, Int.mul_one]
    refine ⟨by omega, ?_, fun m m1 m2 => ?_⟩
    · rw [res _ (c.ts.getLastD 0) (q - 1) (by omega) l0 l1]
      exact decide_eq_true lm
    · by_cases hm : c.p * q ≤ m
      · rw [res m (m - c.p * q) q (by omega) (by omega) (by omega)]
        exact decide_eq_false fun z => by have := none_low _ z; omega
      · rw [res m (m - c.p * q + c.p) (q - 1) (by omega) (by omega) (by omega)]
        exact decide_eq_false fun z => by have := last_max ok.up z; omega
  · rw [if_neg hl]
    have lm := last_mem hl
    have lm2 := List.mem_filter.mp lm
    have lr := of_decide_eq_true lm2.2
    have l0 := ok.low _ lm2.1
    have l1 := ok.high _ lm2.1
    have up : (lowT c r).Pairwise (· < ·) := ok.up.sublist (List.filter_sublist ..)
    refine ⟨by omega, ?_, fun m m1 m2 => ?_⟩
    · rw [res _ ((lowT c r).getLastD 0) q (by omega) l0 l1]
      exact decide_eq_true lm2.1
    · rw [res m (m - c.p * q) q (by omega) (by omega) (by omega)]
      exact decide_eq_false fun z => by
        have : m - c.p * q ∈ lowT c r := List.mem_filter.mpr ⟨z, decide_eq_true (by omega)⟩
        have := last_max up this
        omega
def mv (v : Dv) (s : Sv) (m : Int) : Sv := if m > 0 then (s.2 + m + max (s.1 - s.2 - m) (flo v.2 (s.1 - s.2)), s.2 + m) else (max (s.1 + m) (flo v.1 s.1), s.2 + m)
def mvs (v : Dv) (s : Sv) (ms : List Int) : Sv := ms.foldl (mv v) s
def trail (v : Dv) : Sv → List Int → List Sv
  | _, [] => []
  | s, m :: r => mv v s m :: trail v (mv v s m) r
theorem mvs_app (v : Dv) (s : Sv) (a b : List Int) : mvs v s (a ++ b) = mvs v (mvs v s a) b := List.foldl_append ..
theorem mvs_take_succ (v : Dv) (s : Sv) (ms : List Int) (i : Nat) (m : Int) (h : ms[i]? = some m) : mvs v s (ms.take (i + 1)) = mv v (mvs v s (ms.take i)) m := by
  rw [List.take_add_one, h, mvs_app]
  rfl
/-! ### lists of ints as data -/
theorem ints_at {ns : List Int} {i : Nat} {x : D} (h : (ns.map PyData.int)[i]? = some x) : ∃ t, ns[i]? = some t ∧ x = .int t := by
  rw [List.getElem?_map] at h
  cases e : ns[i]? with
  | none => rw [e] at h; cases h
  | some t =>
    rw [e] at h
    exact ⟨t, rfl, (Option.some.inj h).symm⟩
theorem tfil_yes {l : List Int} {i : Nat} {t : Int} {p : Int → Bool} (h : l[i]? = some t) (hp : p t = true) : (l.take (i + 1)).filter p = (l.take i).filter p ++ [t] := by
  rw [List.take_add_one, h, List.filter_append]
  simp [hp]
theorem tfil_no {l : List Int} {i : Nat} {t : Int} {p : Int → Bool} (h : l[i]? = some t) (hp : p t = false) : (l.take (i + 1)).filter p = (l.take i).filter p := by
  rw [List.take_add_one, h, List.filter_append]
  simp [hp]
theorem sorted_len : ∀ {l : List Int} {a b : Int}, l.Pairwise (· < ·) → (∀ t ∈ l, a ≤ t) → (∀ t ∈ l, t < b) → (l.length : Int) ≤ max 0 (b - a)
  | [], a, b, _, _, _ => by show (0 : Int) ≤ _; omega
  | x :: r, a, b, hp, h1, h2 => by
    obtain ⟨p1, p2⟩ := List.pairwise_cons.mp hp
    have ih := sorted_len (a := x + 1) (b := b) p2 (fun t ht => by have := p1 t ht; omega) fun t ht => h2 t (List.mem_cons_of_mem _ ht)
    have a1 := h1 x List.mem_cons_self
    have a2 := h2 x List.mem_cons_self
    rw [List.length_cons]
    omega
theorem Comb.Ok.len {c : Comb} (ok : c.Ok) : c.ts.length ≤ 24 := by
  have := sorted_len ok.up ok.low ok.high
  have := ok.p24
  omega
theorem ts_small {c : Comb} (ok : c.Ok) (p : Int → Bool) (i : Nat) : ((c.ts.take i).filter p).length < sizeLine := by
  have h1 := List.length_filter_le p (c.ts.take i)
  have h2 : (c.ts.take i).length ≤ c.ts.length := by rw [List.length_take]; omega
  have h3 := ok.len
  rw [sizeLine_eq]
  omega
theorem ix_last {l : List Int} (h : l ≠ []) : ixD (.list (l.map PyData.int)) (-1) = some (.int (l.getLastD 0)) := by
  have e : l = l.dropLast ++ [l.getLastD 0] := by
    rw [show l.getLastD 0 = l.getLast h by simp [List.getLastD_eq_getLast?, List.getLast?_eq_getLast h]]
    exact (List.dropLast_concat_getLast h).symm
  show atI (l.map PyData.int) (-1) = _
  rw [e, List.map_append]
  have e2 : (l.dropLast ++ [l.getLastD 0]).getLastD 0 = l.getLastD 0 := by rw [← e]
  rw [e2]
  exact atI_last _ _
theorem StCut.cut1 (xs : List D) : cutD xs (some 1) none = xs.drop 1 := by
  unfold cutD
  rw [show HT.sIx xs.length 0 (some 1) = min 1 xs.length from HT.sIx_nat xs.length 0 1, HT.sIx_none]
  cases xs with
  | nil => rfl
  | cons x r =>
    have e : min 1 (x :: r).length = 1 := by rw [List.length_cons]; omega
    rw [e, List.drop_succ_cons, List.drop_zero, List.length_cons, Nat.add_sub_cancel, List.take_length]
theorem cut_tail (xs : List Int) : cutD (xs.map PyData.int) (some 1) none = xs.tail.map PyData.int := by
  have h := StCut.cut1 (xs.map PyData.int)
  rw [h, List.drop_one, List.map_tail]
theorem asc_next : ∀ {l : List Int} {i : Nat} {a b : Int}, l.Pairwise (· < ·) → l[i]? = some a → l[i + 1]? = some b → a < b
  | [], _, _, _, _, h, _ => by simp at h
  | x :: r, 0, a, b, hp, h1, h2 => by
    have := Option.some.inj h1
    subst this
    exact (List.pairwise_cons.mp hp).1 b (List.mem_of_getElem? (i := 0) (by simpa using h2))
  | x :: r, i + 1, a, b, hp, h1, h2 => asc_next (List.pairwise_cons.mp hp).2 (by simpa using h1) (by simpa using h2)
end PD

/-! PD10: a law's pool, its script -/
namespace PD
open PySem PySem.Spec PyProof.Rows L2 Evl

def Pk (n : Nat) (pl : List D) : Prop := ∃ a b c : Int, pl = [.int a, .int b, .int c] ∧ 0 ≤ a ∧ 0 ≤ b ∧ b < 2 ^ 100 ∧ 0 ≤ c ∧ c ≤ n
theorem Pk.up {n m : Nat} {pl : List D} (h : Pk n pl) (e : n ≤ m) : Pk m pl := by
  obtain ⟨a, b, c, h1, h2, h3, h4, h5, h6⟩ := h
  exact ⟨a, b, c, h1, h2, h3, h4, h5, by omega⟩
def poolF {A : Type} (L : Nat) (enc : A → List D) (pre : A → Prop) (B : A → Nat) (post : A → D → Prop) : List D → List D → (D → List D → Prop) → Prop := fun pl ds k => ∃ (a : A) (n : Nat), ds = enc a ∧ pre a ∧ Pk n pl ∧ n < L ∧ ∀ d pl', post a d → Pk (n + B a) pl' → k d pl'
theorem poolF_mono {A : Type} {L : Nat} {enc : A → List D} {pre : A → Prop} {B : A → Nat} {post : A → D → Prop} : ∀ pl ds k k', poolF L enc pre B post pl ds k → (∀ d p, k d p → k' d p) → poolF L enc pre B post pl ds k' :=
  fun _ _ _ _ ⟨a, n, e, p, q, l, h⟩ g => ⟨a, n, e, p, q, l, fun d p x y => g d p (h d p x y)⟩
section
variable {c : Cn} {K : PySem.W.Frag} {ds : DS} {pl : List D} {Φ : W → List D → Prop} {tr : TA} {te : TE} {E : XK} {A : Type} {enc : A → List D} {pre : A → Prop} {B : A → Nat} {post : A → D → Prop} {L : Nat}
theorem we_pool {i : Nat} {p : Addr} (a : A) (hi : ds[i]? = some (some (.v (.ref p)))) (hp : c.pool = some p)
    (ha : WA c tr ds pl fun xs p1 => xs = enc a ∧ pre a ∧ ∃ n, Pk n p1 ∧ n < L ∧ ∀ d p2, post a d → Pk (n + B a) p2 → Φ (.d d) p2) : WE c (tCall (spO (poolF L enc pre B post)) [] E (tCons (tVar i) tr)) ds pl Φ :=
  we_callO hi hp (ha.mono fun xs p1 ⟨e, h, n, q, l, k⟩ => ⟨a, n, e, h, q, l, k⟩) poolF_mono
/-! ### the script -/
def Scr (K : PySem.W.Frag) (c : Cn) (a : Addr) (ns : List Int) : Prop := SqL K c.H0 a (ns.map V.int) ∧ c.pool ≠ some a
theorem Scr.at {a : Addr} {ns : List Int} (h : Scr K c a ns) {G H : Hp} {σ : L2.St} (hs : HS c G σ H ds pl) : SqL K H a (ns.map V.int) := by
  obtain ⟨h, hp⟩ := h
  rcases h with (h | ⟨o, h⟩) | h
  · exact .inl (.inl (hs.keep _ _ hp h))
  · exact .inl (.inr ⟨o, hs.keep _ _ hp h⟩)
  · exact .inr h
theorem we_lenS {a : Addr} {ns : List Int} {i : Nat} (hS : Scr K c a ns) (hi : ds[i]? = some (some (.v (.ref a)))) (h : Φ (.d (.int ns.length)) pl) : WE c (tCB (rLenQ K) (tCons (tVar i) tNil)) ds pl Φ := fun G σ H hs Q q => by
  obtain ⟨v, e1, e2⟩ := hs.slots i _ hi
  have e2' : v = .ref a := e2
  subst e2'
  refine ⟨_, e1, a, ns.map V.int, rfl, .inl (hS.at hs), ?_⟩
  rw [List.length_map]
  exact q _ G H (.d _) pl hs (Ex.refl _) (R.int _) h
theorem we_ixS {a : Addr} {ns : List Int} {i : Nat} (hS : Scr K c a ns) (hi : ds[i]? = some (some (.v (.ref a)))) (hb : WE c te ds pl (isI fun k p1 => ∃ e, atI ns k = some e ∧ Φ (.d (.int e)) p1)) : WE c (tOp (rIx K) (tVar i) te) ds pl Φ := fun G σ H hs Q q => by
  obtain ⟨v, e1, e2⟩ := hs.slots i _ hi
  have e2' : v = .ref a := e2
  subst e2'
  refine ⟨_, e1, hb G σ H hs _ fun u G1 H1 w p1 h1 e1 f1 g1 => ?_⟩
  match w, f1, g1 with
  | .d (.int k), f1, ⟨e, g1, g2⟩ =>
    cases f1
    have g1' : atI (ns.map V.int) k = some (.int e) := by
      unfold atI at g1 ⊢
      rw [List.length_map]
      cases q : ixN ns.length k with
      | none => rw [q] at g1; cases g1
      | some j =>
        rw [q] at g1
        show (ns.map V.int)[j]? = _
        rw [List.getElem?_map]
        have g1'' : ns[j]? = some e := g1
        rw [g1'']
        rfl
    exact .inl ⟨a, _, k, _, rfl, rfl, hS.at h1, g1', q _ G1 H1 (.d _) p1 h1 e1 (R.int _) g2⟩
/-! ### a new list becomes the pool -/
def spMk (K : PySem.W.Frag) (F : List Int → Int → (List D → Prop) → Prop) : Sp := fun vs H Q _ => ∃ G a ns i, vs = [.ref a, .int i] ∧ Ex G H ∧ SqL K H a (ns.map V.int) ∧ F ns i fun xs => ∀ p us G' H', Ex H H' → Ex G' H' → Ex G G' → (∀ a o, H a = some o → G a = none → G' a = none) → H p = none → G' p = none →
  H' p = some (.lst us) → RA G' us xs → Q (.ref p) H'
theorem HS.topool {G H : Hp} {σ : L2.St} (hc : c.pool = none) (h : HS c G σ H ds pl) {p : Addr} {us : List V} {xs : List D} (hp : H p = some (.lst us)) (r : RA G us xs) (gp : G p = none) (h0 : c.H0 p = none) (hn : c.pin p = none) (hh : ¬ c.hd p)
    (hd : ∀ (i : Nat) (ys : List D), ds[i]? = some (some (W.o ys)) → σ[i]? ≠ some (some (.ref p))) : HS { c with pool := some p } G σ H ds xs := by
  refine ⟨h.sub, h.gh, fun a q => ?_, h.gn, fun a o _ q => h.keep a o (by rw [hc]; simp) q, fun q z => ?_, h.pin, h.hid, h.len, fun i w q => ?_, h.own⟩
  · cases q; exact gp
  · cases z
    exact ⟨hh, hn, us, hp, r⟩
  · obtain ⟨v, e1, e2⟩ := h.slots i w q
    refine ⟨v, e1, ?_⟩
    cases w with
    | d x => exact e2
    | v x => exact e2
    | o ys =>
      obtain ⟨p', vs, rfl, a1, a2, a3, a4, a5, a6, a7⟩ := e2
      exact ⟨p', vs, rfl, a1, a2, a3, a4, a5, fun z => hd i ys q (by rw [e1, Option.some.inj z]), a7⟩
theorem HS.offpool {G H : Hp} {σ : L2.St} {p : Addr} (hc : c.pool = none) (h0 : c.H0 p = none) (h : HS { c with pool := some p } G σ H ds pl) : HS c G σ H ds [] := by
  refine ⟨h.sub, h.gh, fun a q => (by rw [hc] at q; cases q), h.gn, fun a o _ q => h.keep a o (fun z => ?_) q, fun q z => (by rw [hc] at z; cases z), h.pin, h.hid, h.len, fun i w q => ?_, h.own⟩
  · have z' : p = a := Option.some.inj z
    rw [← z', h0] at q
    cases q
  · obtain ⟨v, e1, e2⟩ := h.slots i w q
    refine ⟨v, e1, ?_⟩
    cases w with
    | d x => exact e2
    | v x => exact e2
    | o ys =>
      obtain ⟨p', vs, rfl, a1, a2, a3, a4, a5, a6, a7⟩ := e2
      exact ⟨p', vs, rfl, a1, a2, a3, a4, a5, by rw [hc]; simp, a7⟩
theorem ws_mkpool {F : List Int → Int → (List D → Prop) → Prop} {i j : Nat} {a : Addr} {ns : List Int} {rest : TS} {En : EE} (hc : c.pool = none) (hS : Scr K c a ns) (hj : ds[j]? = some (some (.v (.ref a)))) (ti : TE) (n : Int)
    (hti : WE c ti ds [] fun w p => w = .d (.int n) ∧ p = [])
    (mono : ∀ k k', F ns n k → (∀ d, k d → k' d) → F ns n k')
    (h : F ns n fun xs => ∀ p, WS { c with pool := some p } rest (ds.set i (some (.v (.ref p)))) xs ⟨fun d _ => En.nx d [], fun w _ => En.rt w [], fun d _ => En.bk d [], fun d _ => En.ct d []⟩) :
    WS c (tSeq (tAsg (tCall (spMk K F) [] E (tCons (tVar j) (tCons ti tNil))) (gName i)) rest) ds [] En := fun G σ H hs D' f => by
  obtain ⟨v, e1, e2⟩ := hs.slots j _ hj
  have e2' : v = .ref a := e2
  subst e2'
  refine ⟨_, e1, hti G σ H hs _ ?_⟩
  rintro u G1 H1 w p1 h1 e1' f1 ⟨rfl, rfl⟩
  cases f1
  refine ⟨G1, a, ns, n, rfl, h1.sub, hS.at h1, mono _ _ h fun xs hx p us G' H' a1 a2 a3 a4 a5 a6 a7 a8 => ?_⟩
  obtain ⟨n1, n2, n3, n4, n5⟩ := h1.none_of a5
  have b1 := h1.ext a1 a2 a3 a4
  have b2 : HS { c with pool := some p } G' σ H' ds xs := b1.topool hc a7 a8 a6 n5 n3 n2 fun i ys q1 q2 => by
    obtain ⟨v, e2, p', us', rfl, b1, _⟩ := h1.slots i _ q1
    rw [q2] at e2
    have ep : p = p' := V.ref.inj (Option.some.inj (Option.some.inj e2))
    rw [← ep, a5] at b1
    cases b1
  have b3 := b2.set (i := i) (v := .ref p) (w := .v (.ref p)) rfl fun xs z => by cases z
  refine hx p G' _ H' b3 D' ⟨?_, ?_, ?_, ?_⟩
  · exact fun G3 σ3 H3 ds3 pl3 h3 e3 g3 => f.nx G3 σ3 H3 ds3 [] (h3.offpool hc n5) (e1'.trans (a3.trans e3)) g3
  · intro v G3 σ3 H3 ds3 w3 pl3 h3 e3 q3 g3
    refine f.rt v G3 σ3 H3 ds3 w3 [] (h3.offpool hc n5) (e1'.trans (a3.trans e3)) ?_ g3
    cases w3 with
    | d x => exact q3
    | v x => exact q3
    | o ys =>
      obtain ⟨p', vs, rfl, a1, a2, a3, a4, a5, a6, a7⟩ := q3
      exact ⟨p', vs, rfl, a1, a2, a3, a4, a5, by rw [hc]; simp, a7⟩
  · exact fun G3 σ3 H3 ds3 pl3 h3 e3 g3 => f.bk G3 σ3 H3 ds3 [] (h3.offpool hc n5) (e1'.trans (a3.trans e3)) g3
  · exact fun G3 σ3 H3 ds3 pl3 h3 e3 g3 => f.ct G3 σ3 H3 ds3 [] (h3.offpool hc n5) (e1'.trans (a3.trans e3)) g3
end
section
variable {P : Program} {w : World} {K : PySem.W.Frag} {mg : Str → Option Value} {base : Heap} {k : Nat} {f : Addr} {fd : FuncData} {ps : List Str}
theorem hs_startW {G H : Hp} {vs : List V} {ws : List W} {N : List Str} (s : Ex G H) (hl : vs.length = ws.length) (r : ∀ (i : Nat) (w : W), ws[i]? = some w → ∃ v, vs[i]? = some v ∧ ((∃ d, w = .d d ∧ R G v d) ∨ w = .v v)) :
    HS ⟨H, fun a => G a = none ∧ ∃ o, H a = some o, none, fun _ => none⟩ G (L2.start N vs) H (ws.map some ++ List.replicate (N.length - ws.length) none) [] := by
  have key : ∀ (i : Nat) (w : W), (ws.map some ++ List.replicate (N.length - ws.length) none)[i]? = some (some w) → ws[i]? = some w := fun i w q => by
    by_cases hi : i < ws.length
    · rw [List.getElem?_append_left (by rw [List.length_map]; exact hi), List.getElem?_map, List.getElem?_eq_getElem hi] at q
      rw [List.getElem?_eq_getElem hi]
      exact Option.some.inj q
    · rw [List.getElem?_append_right (by rw [List.length_map]; omega), List.getElem?_replicate] at q
      split at q <;> cases q
  refine ⟨s, fun a q => q.1, fun a q => (by cases q), fun a o q => (by cases q), fun a o _ q => q, fun p q => (by cases q), fun a o q => (by cases q), fun a q => q.2, ?_, fun i w q => ?_, fun i j p xs ys q1 => ?_⟩
  · unfold L2.start
    simp only [List.length_append, List.length_map, List.length_replicate, hl]
  · have q' := key i w q
    have hi : i < ws.length := (List.getElem?_eq_some_iff.mp q').1
    obtain ⟨v, e1, e2⟩ := r i w q'
    refine ⟨v, ?_, ?_⟩
    · unfold L2.start
      rw [List.getElem?_append_left (by rw [List.length_map, hl]; exact hi), List.getElem?_map, e1]
      rfl
    · rcases e2 with ⟨d, rfl, e2⟩ | rfl
      · exact e2
      · rfl
  · have q' := key i _ q1
    obtain ⟨v, e1, e2⟩ := r i _ q'
    rcases e2 with ⟨d, e2, _⟩ | e2 <;> cases e2
theorem fgMk {F : List Int → Int → (List D → Prop) → Prop} {x qual : Str} {st : Stmt} {N : List Str} (Fn : Fun K x qual st f fd) (S : FnScope N ps (defScope st)) (len : ps.length = 2)
    (go : ∀ (cdv : Value) (B : Around) (fr : List Env) (s : Shared) (H : Hp) (E : XK), B.guards = some [] → Room k (B.deeper (envOfC qual (defScope st) s.heap.objs.size f cdv)) → ∃ t, PSs (cxOf CX0 P w K mg base N qual (defScope st) f cdv B fr s H E).nox (defBody st) t ∧
      ∀ c a (ns : List Int) (i : Int) (k : List D → Prop), c.pool = none → Scr K c a ns → F ns i k → WS c t ([W.v (.ref a), W.d (.int i)].map some ++ List.replicate (N.length - 2) none) [] ⟨fun _ _ => False, rtN k, fun _ _ => False, fun _ _ => False⟩) : FG P w K mg base (k + 1) f fd ps (spMk K F) := by
  refine fg_of Fn S (fun vs H Q E h => ?_) fun cdv B fr s H vs Q E hg hr h => ?_
  · obtain ⟨G, a, ns, i, rfl, _⟩ := h
    rw [len]
    rfl
  · obtain ⟨t, der, body⟩ := go cdv B fr s H E hg hr
    refine ⟨t, der, ?_⟩
    obtain ⟨G, a, ns, i, rfl, s0, hS, h⟩ := h
    have st0 := hs_startW (N := N) (vs := [.ref a, .int i]) (ws := [W.v (.ref a), W.d (.int i)]) s0 rfl (fun j w q => by
      match j, q with
      | 0, q => cases q; exact ⟨_, rfl, .inr rfl⟩
      | 1, q => cases q; exact ⟨_, rfl, .inl ⟨_, rfl, .int i⟩⟩
      | j + 2, q => simp at q)
    refine body ⟨H, fun a => G a = none ∧ ∃ o, H a = some o, none, fun _ => none⟩ a ns i _ rfl ⟨hS, by simp⟩ h G _ H st0 _ ⟨?_, ?_, ?_, ?_⟩
    · exact fun G' σ' H' ds' pl' h' e q => q.elim
    · intro v G' σ' H' ds' w' pl' h' e q g
      match w', q, g with
      | .o y, ⟨p, us, ev, a1, a2, a3, a4, a5, a6, a7⟩, g =>
        subst ev
        exact g p us G' H' (fun a o z => h'.keep a o (fun y => by cases y) z) h'.sub e (fun a o z1 z2 => h'.gh a ⟨z2, o, z1⟩) a4 a3 a1 a2
    · exact fun G' σ' H' ds' pl' h' e q => q.elim
    · exact fun G' σ' H' ds' pl' h' e q => q.elim
def spLaw (K : PySem.W.Frag) : Sp := fun vs H Q _ => ∃ (a : Addr) (ns : List Int), vs = [.ref a] ∧ SqL K H a (ns.map V.int) ∧ ns.length ≤ 63 ∧ ∀ H', Q (.bl true) H'
theorem fgLaw {x qual : Str} {st : Stmt} {N : List Str} (Fn : Fun K x qual st f fd) (S : FnScope N ps (defScope st)) (len : ps.length = 1)
    (go : ∀ (cdv : Value) (B : Around) (fr : List Env) (s : Shared) (H : Hp) (E : XK), B.guards = some [] → Room k (B.deeper (envOfC qual (defScope st) s.heap.objs.size f cdv)) → ∃ t, PSs (cxOf CX0 P w K mg base N qual (defScope st) f cdv B fr s H E).nox (defBody st) t ∧
      ∀ c a (ns : List Int), c.pool = none → Scr K c a ns → ns.length ≤ 63 → WS c t ([W.v (.ref a)].map some ++ List.replicate (N.length - 1) none) [] ⟨fun _ _ => False, rtD fun d => d = .bool true, fun _ _ => False, fun _ _ => False⟩) : FG P w K mg base (k + 1) f fd ps (spLaw K) := by
  refine fg_of Fn S (fun vs H Q E h => ?_) fun cdv B fr s H vs Q E hg hr h => ?_
  · obtain ⟨a, ns, rfl, _⟩ := h
    rw [len]
    rfl
  · obtain ⟨t, der, body⟩ := go cdv B fr s H E hg hr
    refine ⟨t, der, ?_⟩
    obtain ⟨a, ns, rfl, hS, hl, h⟩ := h
    have st0 := hs_startW (G := fun _ => none) (H := H) (N := N) (vs := [.ref a]) (ws := [W.v (.ref a)]) (fun a o q => by cases q) rfl (fun j w q => by
      match j, q with
      | 0, q => cases q; exact ⟨_, rfl, .inr rfl⟩
      | j + 1, q => simp at q)
    refine body ⟨H, fun a => (none : Option HO) = none ∧ ∃ o, H a = some o, none, fun _ => none⟩ a ns rfl ⟨hS, by simp⟩ hl (fun _ => none) _ H st0 _ ⟨?_, ?_, ?_, ?_⟩
    · exact fun G' σ' H' ds' pl' h' e q => q.elim
    · intro v G' σ' H' ds' w' pl' h' e q g
      match w', q, g with
      | .d y, q, g =>
        have g' : y = .bool true := g
        subst g'
        cases q
        exact h H'
    · exact fun G' σ' H' ds' pl' h' e q => q.elim
    · exact fun G' σ' H' ds' pl' h' e q => q.elim
end
end PD

/-! PD11: bounds -/
namespace PD
open PySem PySem.Spec PyProof.Rows L2 Evl
theorem nat_lt_pow {i : Int} {n : Nat} (h0 : -(2 : Int) ^ n < i) (h1 : i < (2 : Int) ^ n) : i.natAbs < 2 ^ n := by
  have e : ((2 : Int) ^ n) = ((2 ^ n : Nat) : Int) := by simp
  rw [e] at h0 h1
  omega
theorem mulw {i j : Int} (a b : Nat) (h1 : -(2 : Int) ^ a < i) (h2 : i < (2 : Int) ^ a) (h3 : -(2 : Int) ^ b < j) (h4 : j < (2 : Int) ^ b) (h5 : 0 < a) (h6 : 0 < b) (h7 : a + b ≤ 1000000) : CMulW i j := wide_mul (nat_lt_pow h1 h2) (nat_lt_pow h3 h4) h5 h6 h7
theorem divw {j : Int} (i : Int) (h : 0 < j) (h2 : j < (2 : Int) ^ 200) : CDivW i j := wide_div h (b := 200) (nat_lt_pow (by have : (0 : Int) < (2 : Int) ^ 200 := Int.pow_pos (by decide); omega) h2) (by decide) (by decide)
theorem poww {i : Int} {j : Int} (h0 : 0 ≤ j) (h1 : j ≤ 1000) (h2 : -(2 : Int) ^ 2000 < i) (h3 : i < (2 : Int) ^ 2000) : CPowW i j := ⟨h0, h1, nat_lt_pow h2 h3⟩
theorem pow200 : (2 : Int) ^ 200 < (2 : Int) ^ 2000 ∧ (0 : Int) < (2 : Int) ^ 200 := ⟨by decide +kernel, by decide +kernel⟩
section
variable {c : Cn} {K : PySem.W.Frag} {ds : DS} {pl : List D} {Φ : W → List D → Prop} {tr : TA} {te : TE} {E : XK}
abbrev drawF := poolF 9000000 (fun t : Int => [.int t]) (fun t => 0 < t ∧ t < (2 : Int) ^ 200) (fun _ => 1) (fun t d => ∃ v, d = .int v ∧ 0 ≤ v ∧ v < t)
theorem we_draw {i : Nat} {p : Addr} (t : Int) (n : Nat) (hi : ds[i]? = some (some (.v (.ref p)))) (hp : c.pool = some p)
    (ha : WA c tr ds pl fun xs p1 => xs = [.int t] ∧ (0 < t ∧ t < (2 : Int) ^ 200) ∧ Pk n p1 ∧ n < 9000000 ∧ ∀ v p2, 0 ≤ v → v < t → Pk (n + 1) p2 → Φ (.d (.int v)) p2) : WE c (tCall (spO drawF) [] E (tCons (tVar i) tr)) ds pl Φ :=
  we_pool t hi hp (ha.mono fun xs p1 ⟨e, h, hP, hn, k⟩ => ⟨e, h, n, hP, hn, fun d p2 ⟨v, hv, v0, v1⟩ hP2 => by subst hv; exact k v p2 v0 v1 hP2⟩)
theorem os_pick {xs : List D} {v : Int} {p2 : List D} (Qx : D → Prop) (h0 : 0 ≤ v) (h1 : v < (xs.length : Int)) (hq : ∀ x ∈ xs, Qx x) (k : ∀ x, Qx x → Φ (.d x) p2) : OpS c (rIx K) ds (.list xs) (.int v) p2 Φ := by
  have hlt : v.toNat < xs.length := by omega
  have e : v = (v.toNat : Int) := by omega
  rw [e]
  exact os_ln (List.getElem?_eq_getElem hlt) (k _ (hq _ (List.getElem_mem hlt)))
end
end PD

/-! PD12: sizes of combs, devices, states; lists that are empty or not -/
namespace PD
open PySem PySem.Spec PyProof.Rows L2 Evl
theorem okD_ints {n : Nat} {ns : List Int} (h : ∀ t ∈ ns, t.natAbs < 10 ^ 150) : okD (n + 1) (.list (ns.map PyData.int)) := fun x hx => by
  obtain ⟨t, ht, rfl⟩ := List.mem_map.mp hx
  have := h t ht
  cases n <;> exact this
theorem small24 {t : Int} (h0 : -(100 : Int) ≤ t) (h1 : t ≤ 100) : t.natAbs < 10 ^ 150 := Nat.lt_of_le_of_lt (show t.natAbs ≤ 100 by omega) (by decide +kernel)
theorem Comb.Ok.okD {c : Comb} (ok : c.Ok) (n : Nat) : okD (n + 2) c.d := fun x hx => by
  have p1 := ok.p1
  have p2 := ok.p24
  rcases List.mem_cons.mp hx with rfl | hx
  · exact small24 (by omega) (by omega)
  · rw [List.mem_singleton.mp hx]
    exact okD_ints fun t ht => by
      have := ok.low t ht
      have := ok.high t ht
      exact small24 (by omega) (by omega)
theorem Dv.Ok.okD {v : Dv} (ok : v.Ok) (n : Nat) : okD (n + 3) v.d := fun x hx => by
  rcases List.mem_cons.mp hx with rfl | hx
  · exact ok.1.okD n
  · rw [List.mem_singleton.mp hx]
    exact ok.2.okD n
section
variable {c : Cn} {K : PySem.W.Frag} {ds : DS} {pl : List D} {Φ : W → List D → Prop}
theorem eqv_nil (ts : List D) : PyData.eqv (.list ts) (.list []) = decide (ts = []) := by
  cases ts with
  | nil => rfl
  | cons x r => rfl
theorem os_neNil {ts : List D} {p2 : List D} (ok : okD 20 (.list ts)) (h : Φ (.d (.bool (decide (ts ≠ [])))) p2) : OpS c (rNeU K) ds (.list ts) (.list []) p2 Φ :=
  os_neUD (shaped_of ok) rfl (by
    rw [eqv_nil]
    have e : (!decide (ts = [])) = decide (ts ≠ []) := by by_cases z : ts = [] <;> simp [z]
    rw [e]
    exact h)
theorem ite_we {ta tb : TE} {b : Bool} (Q : D → Prop) (h1 : b = true → WE c ta ds pl fun w p => ∃ x, w = .d x ∧ Q x ∧ p = pl) (h2 : b = false → WE c tb ds pl fun w p => ∃ x, w = .d x ∧ Q x ∧ p = pl) (hk : ∀ x, Q x → Φ (.d x) pl) : if b = true then WE c ta ds pl Φ else WE c tb ds pl Φ := by
  cases b with
  | true => exact (h1 rfl).mono fun w p ⟨x, e1, q, e2⟩ => by subst e1; subst e2; exact hk x q
  | false => exact (h2 rfl).mono fun w p ⟨x, e1, q, e2⟩ => by subst e1; subst e2; exact hk x q
theorem ite_ws {t u : TS} {b : Bool} {E : EE} (I : DS → List D → Prop) (h1 : b = true → WS c t ds pl { E with nx := I }) (h2 : b = false → WS c u ds pl { E with nx := I }) (hk : ∀ ds' pl', I ds' pl' → E.nx ds' pl') : if b = true then WS c t ds pl E else WS c u ds pl E := by
  cases b with
  | true => exact ws_mono (h1 rfl) hk (fun _ _ h => h) (fun _ _ h => h) fun _ _ h => h
  | false => exact ws_mono (h2 rfl) hk (fun _ _ h => h) (fun _ _ h => h) fun _ _ h => h
end
theorem flo_low {c : Comb} (ok : c.Ok) (n : Int) : n - 48 ≤ flo c n := by
  have p1 := ok.p1
  have p2 := ok.p24
  have r0 := Int.emod_nonneg n (show c.p ≠ 0 by omega)
  have r1 := Int.emod_lt_of_pos n (show 0 < c.p by omega)
  unfold flo
  split
  · have := ok.low _ (last_mem ok.ne)
    omega
  · rename_i hl
    have := ok.low _ (List.mem_filter.mp (last_mem hl)).1
    unfold lowT
    omega
theorem range_up (n : Nat) : ((List.range n).map fun (i : Nat) => (i : Int)).Pairwise (· < ·) := by
  rw [List.pairwise_map]
  exact List.pairwise_lt_range.imp fun h => by omega
theorem range_in {n : Nat} {t : Int} (h : t ∈ (List.range n).map fun (i : Nat) => (i : Int)) : 0 ≤ t ∧ t < n := by
  obtain ⟨i, hi, rfl⟩ := List.mem_map.mp h
  have := List.mem_range.mp hi
  omega
end PD

/-! PD13: calls with an owned list, new lists by list() and +, a mutated list within a tuple -/
namespace PD
open PySem PySem.Spec PyProof.Rows L2 Evl
section
variable {c : Cn} {K : PySem.W.Frag} {ds : DS} {pl : List D} {Φ : W → List D → Prop} {tr ta' : TA} {te ta tb : TE} {E : XK} {A : Type} {enc : A → List D} {pre : A → Prop} {B : A → Nat} {post : A → D → Prop} {L : Nat} {En : EE}
theorem we_poolE {i : Nat} {p : Addr} (hi : ds[i]? = some (some (.v (.ref p)))) (hp : c.pool = some p)
    (ha : WA c tr ds pl fun xs p1 => ∃ a, xs = enc a ∧ pre a ∧ ∃ n, Pk n p1 ∧ n < L ∧ ∀ d p2, post a d → Pk (n + B a) p2 → Φ (.d d) p2) : WE c (tCall (spO (poolF L enc pre B post)) [] E (tCons (tVar i) tr)) ds pl Φ :=
  we_callO hi hp (ha.mono fun xs p1 ⟨a, e, h, n, q, l, k⟩ => ⟨a, n, e, h, q, l, k⟩) poolF_mono
theorem HS.newO {G H : Hp} {σ : L2.St} (h1 : HS c G σ H ds pl) {p : Addr} (hp : H p = none) {us : List V} {xs : List D} (f1 : RA G us xs) (i : Nat) : HS c G (σ.set i (some (.ref p))) (upd H p (.lst us)) (ds.set i (some (.o xs))) pl := by
  obtain ⟨n1, n2, n3, n4, n5⟩ := h1.none_of hp
  refine (h1.newH hp).set (w := .o xs) ⟨p, us, rfl, upd_same, f1, n1, n5, n3, n4, n2⟩ fun xs _ j ys q1 q2 => ?_
  obtain ⟨v, e2, p', us, rfl, b1, _⟩ := h1.slots j _ q1
  rw [e2] at q2
  have e3 : p' = p := V.ref.inj (Option.some.inj (Option.some.inj q2))
  rw [e3, hp] at b1
  cases b1
theorem ws_listO {i : Nat} (h : WE c te ds pl (isD fun d p1 => ∃ xs, d = .list xs ∧ En.nx (ds.set i (some (.o xs))) p1)) : WS c (tAsg (tCB (rListQ K) (tCons te tNil)) (gName i)) ds pl En := fun G σ H hs D' f => h G σ H hs _ fun v G1 H1 w p1 h1 e1 f1 g1 => by
  match w, f1, g1 with
  | .d d, f1, ⟨xs, ed, g1⟩ =>
    subst ed
    obtain ⟨p, us, rfl, b1, b2⟩ := RT.list (.inl f1) h1.sub
    exact ⟨p, us, rfl, .inl (SqL.of b1), fun l hl => f.nx G1 _ _ _ p1 (h1.newO hl b2 i) e1 g1⟩
theorem pair_raw {G : Hp} {v : V} {x y : D} (h : R G v (.tuple [x, y])) : ∃ t a b, v = .ref t ∧ G t = some (.tup [a, b]) ∧ R G a x ∧ R G b y := by
  cases h with
  | tup h1 h2 =>
    cases h2 with
    | cons r1 h3 =>
      cases h3 with
      | cons r2 h4 =>
        cases h4
        exact ⟨_, _, _, rfl, h1, r1, r2⟩
end
end PD

/-! PD14: more mathematics: slices, trails, bounds -/
namespace PD
open PySem PySem.Spec PyProof.Rows L2 Evl
theorem cut_take (xs : List Int) (k : Nat) : cutD (xs.map PyData.int) none (some (k : Int)) = (xs.take k).map PyData.int := by
  unfold cutD
  rw [HT.sIx_nat, HT.sIx_none, List.drop_zero, Nat.sub_zero, List.length_map, List.map_take]
  rw [← List.length_map (f := PyData.int), ← List.take_eq_take_min]
theorem mv_bound {v : Dv} (ok : v.Ok) (s : Sv) (m : Int) : (mv v s m).1.natAbs ≤ s.1.natAbs + m.natAbs + 48 ∧ (mv v s m).2.natAbs ≤ s.2.natAbs + m.natAbs := by
  have l1 := flo_low ok.1 s.1
  have u1 := (flo_spec ok.1 s.1).1
  have l2 := flo_low ok.2 (s.1 - s.2)
  have u2 := (flo_spec ok.2 (s.1 - s.2)).1
  unfold mv
  by_cases hm : m > 0
  · rw [if_pos hm]
    exact ⟨by show (s.2 + m + max (s.1 - s.2 - m) (flo v.2 (s.1 - s.2))).natAbs ≤ _; omega, by show (s.2 + m).natAbs ≤ _; omega⟩
  · rw [if_neg hm]
    exact ⟨by show (max (s.1 + m) (flo v.1 s.1)).natAbs ≤ _; omega, by show (s.2 + m).natAbs ≤ _; omega⟩
theorem mvs_bound {v : Dv} (ok : v.Ok) (M : Nat) : ∀ (ms : List Int) (s : Sv), (∀ m ∈ ms, m.natAbs ≤ M) → (mvs v s ms).1.natAbs ≤ s.1.natAbs + ms.length * (M + 48) ∧ (mvs v s ms).2.natAbs ≤ s.2.natAbs + ms.length * (M + 48)
  | [], s, _ => by
    show s.1.natAbs ≤ s.1.natAbs + 0 * _ ∧ s.2.natAbs ≤ s.2.natAbs + 0 * _
    omega
  | m :: r, s, h => by
    have h1 := mv_bound ok s m
    have h2 := h m List.mem_cons_self
    have h3 := mvs_bound ok M r (mv v s m) fun x hx => h x (List.mem_cons_of_mem _ hx)
    show (mvs v (mv v s m) r).1.natAbs ≤ s.1.natAbs + (r.length + 1) * (M + 48) ∧ (mvs v (mv v s m) r).2.natAbs ≤ s.2.natAbs + (r.length + 1) * (M + 48)
    rw [Nat.succ_mul]
    omega
section
variable {c : Cn} {K : PySem.W.Frag} {ds : DS} {pl : List D} {σ : L2.St} {E : EE} {t : TS}
end
end PD

/-! PD15: own defs called by name -/
namespace PD
open PySem PySem.Spec PyProof.Rows L2 Evl
def KB (K : PySem.W.Frag) (fd : FuncData) (ps : List Str) : Prop := ∀ (s : Shared) (ws : List Value), K.In s.heap → ws.length = ps.length → BindsTo s fd ⟨[], ps.zip ws⟩ (ps.zip ws)
def KB2 (K : PySem.W.Frag) (fd : FuncData) (ps ks : List Str) : Prop := ∀ (s : Shared) (us ws : List Value), K.In s.heap → (us ++ ws).length = ps.length → ks.length = ws.length → BindsTo s fd ⟨us, ks.zip ws⟩ (ps.zip (us ++ ws))
section
variable {X : Cx} {k : Nat} {f : Addr} {fd : FuncData} {ps ks : List Str} {sp : Sp} {E : XK} {x : Str} {p pos : Pos} {e : Expr} {es : List Expr} {t tk : TA} {kws : List Keyword}
end
def tMapA (gV : List V → List V → List V) (t tk : TA) : TA := fun σ H Q => t σ H fun vs H1 => tk σ H1 fun zs H2 => Q (gV vs zs) H2
section
variable {X : Cx} {k : Nat} {f : Addr} {fd : FuncData} {ps ks : List Str} {sp : Sp} {E : XK} {x : Str} {p pos : Pos} {e : Expr} {es : List Expr} {t tk : TA} {kws : List Keyword} {g : List Value → List Value → List Value} {gV : List V → List V → List V}
end
section
variable {c : Cn} {ds : DS} {pl : List D} {t tk : TA} {gV : List V → List V → List V} {Φ : List D → List D → Prop}
end
def pick {α : Type} (is : List Nat) (ws : List α) : List α := is.filterMap fun i => ws[i]?
def tPick (is : List Nat) (t : TA) : TA := fun σ H Q => t σ H fun vs H1 => Q (pick is vs) H1
def KwOk (K : PySem.W.Frag) (mg : Str → Option Value) (name : Str) (ps ks : List Str) (is : List Nat) : Prop := ∃ f fd, mg name = some (.ref f) ∧ At0 K f fd ∧
  ∀ (s : Shared) (ws : List Value), (pick is ws).length = ps.length → BindsTo s fd ⟨[], ks.zip ws⟩ (ps.zip (pick is ws))
section
variable {X : Cx} {k : Nat} {ps ks : List Str} {sp : Sp} {E : XK} {x : Str} {p pos : Pos} {tk : TA} {kws : List Keyword} {is : List Nat}
end
section
variable {c : Cn} {ds : DS} {pl : List D} {t : TA} {is : List Nat} {Φ : List D → List D → Prop}
end
end PD

/-! PD16: joined moves -/
namespace PD
open PySem PySem.Spec PyProof.Rows L2 Evl
def joinR (acc : List Int) (m : Int) : List Int := if acc ≠ [] ∧ (decide (0 < acc.getLastD 0) = decide (0 < m)) then acc.dropLast ++ [acc.getLastD 0 + m] else acc ++ [m]
def joined (ms : List Int) : List Int := ms.foldl joinR []
section
variable {c : Cn} {K : PySem.W.Frag} {ds : DS} {pl : List D} {Φ : W → List D → Prop} {E : EE}
end
end PD

/-! PD17: defs that hand back new things which their caller changes later -/
namespace PD
open PySem PySem.Spec PyProof.Rows L2 Evl
def WSK (c : Cn) (t : TS) (ds : DS) (pl : List D) (D' : Ends) (G0 : Hp) : Prop := ∀ G σ H, HS c G σ H ds pl → Ex G0 G → t D' σ H
abbrev onlyNx (k : DS → List D → Prop) : EE := ⟨k, fun _ _ => False, fun _ _ => False, fun _ _ => False⟩
section
variable {c : Cn} {K : PySem.W.Frag} {ds : DS} {pl : List D} {t u : TS} {D' : Ends} {G0 : Hp} {E : EE}
theorem wsk_of_ws (h : WS c t ds pl E) (f : Fits c G0 D' E) : WSK c t ds pl D' G0 := fun G σ H hs e => h G σ H hs D' (f.up e)
theorem ws_of_wsk (h : ∀ G0 D', Fits c G0 D' E → WSK c t ds pl D' G0) : WS c t ds pl E := fun G σ H hs D' f => h G D' f G σ H hs (Ex.refl _)
theorem wsk_seq (h : WS c t ds pl (onlyNx fun ds' pl' => WSK c u ds' pl' D' G0)) : WSK c (tSeq t u) ds pl D' G0 := fun G σ H hs e =>
  h G σ H hs { D' with nx := u D' } ⟨fun G' σ' H' ds' pl' h' e' w => w G' σ' H' h' (e.trans e'), fun _ _ _ _ _ _ _ _ _ _ w => w.elim, fun _ _ _ _ _ _ _ w => w.elim, fun _ _ _ _ _ _ _ w => w.elim⟩
def Cn.pinP (c : Cn) (P : Hp) : Cn := { c with pin := fun a => match P a with
  | some o => some o
  | none => c.pin a }
def Fresh (c : Cn) (P : Hp) : Prop := ∀ a o, P a = some o → c.H0 a = none ∧ c.pin a = none ∧ ¬ c.hd a ∧ c.pool ≠ some a
def Cn.hide (c : Cn) (S : Addr → Prop) : Cn := { c with hd := fun a => c.hd a ∨ S a }
theorem pinP_at {P : Hp} {a : Addr} {o : HO} (h : P a = some o) : (c.pinP P).pin a = some o := by unfold Cn.pinP; simp only [h]
theorem pinP_none {P : Hp} {a : Addr} (h : P a = none) : (c.pinP P).pin a = c.pin a := by unfold Cn.pinP; simp only [h]
theorem pinP_or {P : Hp} {a : Addr} {o : HO} (h : (c.pinP P).pin a = some o) : P a = some o ∨ (P a = none ∧ c.pin a = some o) := by
  cases e : P a with
  | some u => rw [pinP_at e] at h; exact .inl (by rw [← h])
  | none => rw [pinP_none e] at h; exact .inr ⟨rfl, h⟩
theorem HS.pinNew {G H H' P : Hp} {σ : L2.St} (h : HS c G σ H ds pl) (e : Ex H H') (hP : ∀ a o, P a = some o → H' a = some o ∧ H a = none) : HS (c.pinP P) G σ H' ds pl := by
  have nP : ∀ {a : Addr} {o : HO}, H a = some o → P a = none := fun {a o} q => by
    cases z : P a with
    | none => rfl
    | some u => rw [(hP a u z).2] at q; cases q
  refine ⟨h.sub.trans e, h.gh, h.gq, fun a o q => ?_, fun a o q1 q2 => e _ _ (h.keep a o q1 q2), fun p z => ?_, fun a o q => ?_, fun a q => ?_, h.len, fun i w q => ?_, h.own⟩
  · rcases pinP_or q with q | ⟨_, q⟩
    · exact (h.none_of (hP a o q).2).1
    · exact h.gn a o q
  · obtain ⟨b1, b2, vs, b3, b4⟩ := h.pl p z
    exact ⟨b1, by rw [pinP_none (nP b3)]; exact b2, vs, e _ _ b3, b4⟩
  · rcases pinP_or q with q | ⟨_, q⟩
    · exact (hP a o q).1
    · exact e _ _ (h.pin a o q)
  · obtain ⟨o, z⟩ := h.hid a q
    exact ⟨o, e _ _ z⟩
  · obtain ⟨v, e1, e2⟩ := h.slots i w q
    refine ⟨v, e1, ?_⟩
    cases w with
    | d x => exact e2
    | v x => exact e2
    | o ys =>
      obtain ⟨p', vs, rfl, a1, a2, a3, a4, a5, a6, a7⟩ := e2
      exact ⟨p', vs, rfl, e _ _ a1, a2, a3, a4, by rw [pinP_none (nP a1)]; exact a5, a6, a7⟩
theorem HS.unpin {G H H' P : Hp} {σ : L2.St} (h : HS (c.pinP P) G σ H ds pl) (fresh : ∀ a o, P a = some o → c.H0 a = none ∧ c.pin a = none) (e : ∀ a, P a = none → H' a = H a) (e2 : ∀ a o, P a = some o → ∃ u, H' a = some u) : HS (c.hide fun a => ∃ o, P a = some o) G σ H' ds pl := by
  have pn : ∀ {a : Addr}, (c.pinP P).pin a = none → P a = none ∧ c.pin a = none := fun {a} q => by
    cases z : P a with
    | none => rw [pinP_none z] at q; exact ⟨rfl, q⟩
    | some u => rw [pinP_at z] at q; cases q
  refine ⟨fun a o q => ?_, fun a q => ?_, h.gq, fun a o q => ?_, fun a o q1 q2 => ?_, fun p z => ?_, fun a o q => ?_, fun a q => ?_, h.len, fun i w q => ?_, h.own⟩
  · cases z : P a with
    | none => rw [e a z]; exact h.sub a o q
    | some u => rw [h.gn a u (pinP_at z)] at q; cases q
  · rcases q with q | ⟨o, q⟩
    · exact h.gh a q
    · exact h.gn a o (pinP_at q)
  · cases z : P a with
    | none => exact h.gn a o (by rw [pinP_none z]; exact q)
    | some u => exact h.gn a u (pinP_at z)
  · cases z : P a with
    | none => rw [e a z]; exact h.keep a o q1 q2
    | some u =>
      have q3 : c.H0 a = some o := q2
      rw [(fresh a u z).1] at q3; cases q3
  · obtain ⟨b1, b2, vs, b3, b4⟩ := h.pl p z
    obtain ⟨b5, b6⟩ := pn b2
    refine ⟨fun q => q.elim b1 fun ⟨o, q⟩ => ?_, b6, vs, ?_, b4⟩
    · rw [b5] at q; cases q
    · rw [e p b5]; exact b3
  · cases z : P a with
    | none => rw [e a z]; exact h.pin a o (by rw [pinP_none z]; exact q)
    | some u =>
      have q3 : c.pin a = some o := q
      rw [(fresh a u z).2] at q3; cases q3
  · rcases q with q | ⟨o, q⟩
    · obtain ⟨o, z⟩ := h.hid a q
      cases y : P a with
      | none => exact ⟨o, by rw [e a y]; exact z⟩
      | some u => exact e2 a u y
    · exact e2 a o q
  · obtain ⟨v, e1, e3⟩ := h.slots i w q
    refine ⟨v, e1, ?_⟩
    cases w with
    | d x => exact e3
    | v x => exact e3
    | o ys =>
      obtain ⟨p', vs, rfl, a1, a2, a3, a4, a5, a6, a7⟩ := e3
      obtain ⟨b5, b6⟩ := pn a5
      exact ⟨p', vs, rfl, by rw [e p' b5]; exact a1, a2, a3, a4, b6, a6, fun q => q.elim a7 fun ⟨o, q⟩ => by rw [b5] at q; cases q⟩
theorem HS.unhide {G H : Hp} {σ : L2.St} {S : Addr → Prop} (h : HS (c.hide S) G σ H ds pl) : HS c G σ H ds pl := by
  refine ⟨h.sub, fun a q => h.gh a (.inl q), h.gq, h.gn, h.keep, fun p z => ?_, h.pin, fun a q => h.hid a (.inl q), h.len, fun i w q => ?_, h.own⟩
  · obtain ⟨b1, b2, vs, b3, b4⟩ := h.pl p z
    exact ⟨fun q => b1 (.inl q), b2, vs, b3, b4⟩
  · obtain ⟨v, e1, e3⟩ := h.slots i w q
    refine ⟨v, e1, ?_⟩
    cases w with
    | d x => exact e3
    | v x => exact e3
    | o ys =>
      obtain ⟨p', vs, rfl, a1, a2, a3, a4, a5, a6, a7⟩ := e3
      exact ⟨p', vs, rfl, a1, a2, a3, a4, a5, a6, fun q => a7 (.inl q)⟩
theorem Fits.hide {S : Addr → Prop} (f : Fits c G0 D' E) : Fits (c.hide S) G0 D' E := by
  refine ⟨fun G' σ' H' ds' pl' h e w => f.nx G' σ' H' ds' pl' h.unhide e w, fun v G' σ' H' ds' w pl' h e q z => f.rt v G' σ' H' ds' w pl' h.unhide e ?_ z, fun G' σ' H' ds' pl' h e w => f.bk G' σ' H' ds' pl' h.unhide e w, fun G' σ' H' ds' pl' h e w => f.ct G' σ' H' ds' pl' h.unhide e w⟩
  cases w with
  | d x => exact q
  | v x => exact q
  | o ys =>
    obtain ⟨p', vs, rfl, a1, a2, a3, a4, a5, a6, a7⟩ := q
    exact ⟨p', vs, rfl, a1, a2, a3, a4, a5, a6, fun q => a7 (.inl q)⟩
end

/-! ### a promise of new things: P is what is new -/
def spW (F : List D → (Hp → V → Prop) → Prop) : Sp := fun vs H Q _ => ∃ G ds, Ex G H ∧ RA G vs ds ∧ F ds fun P v => ∀ H', Ex H H' → Ex P H' → (∀ a o, P a = some o → H a = none) → Q v H'
section
variable {c : Cn} {K : PySem.W.Frag} {ds : DS} {pl : List D} {tr : TA} {t u : TS} {D' : Ends} {G0 : Hp} {E : XK} {F : List D → (Hp → V → Prop) → Prop} {Φ : W → List D → Prop}
theorem HS.setV {G H : Hp} {σ : L2.St} (h : HS c G σ H ds pl) (i : Nat) (v : V) : HS c G (σ.set i (some v)) H (ds.set i (some (.v v))) pl := h.set (w := .v v) rfl fun xs z => by cases z
theorem wsk_callW {i : Nat} (ha : WA c tr ds pl fun xs p1 => F xs fun P v => Fresh c P → WSK (c.pinP P) u (ds.set i (some (.v v))) p1 D' G0) (mono : ∀ xs k k', F xs k → (∀ P v, k P v → k' P v) → F xs k') :
    WSK c (tSeq (tAsg (tCall (spW F) [] E tr) (gName i)) u) ds pl D' G0 := fun G σ H hs e =>
  ha G σ H hs _ fun vs G1 H1 xs p1 h1 e1 f1 g1 => by
    rw [List.append_nil]
    refine ⟨G1, xs, h1.sub, f1, mono xs _ _ g1 fun P v hk H' a1 a2 a3 => ?_⟩
    refine hk (fun a o q => ?_) G1 _ H' ((h1.pinNew a1 fun a o q => ⟨a2 a o q, a3 a o q⟩).setV i v) (e.trans e1)
    have n := h1.none_of (a3 a o q)
    exact ⟨n.2.2.2.2, n.2.2.1, n.2.1, n.2.2.2.1⟩
theorem we_callW (ha : WA c tr ds pl fun xs p1 => F xs fun P v => ∃ d, R P v d ∧ Φ (.d d) p1) (mono : ∀ xs k k', F xs k → (∀ P v, k P v → k' P v) → F xs k') : WE c (tCall (spW F) [] E tr) ds pl Φ := fun G σ H hs Q q =>
  ha G σ H hs _ fun vs G1 H1 xs p1 h1 e1 f1 g1 => by
    rw [List.append_nil]
    refine ⟨G1, xs, h1.sub, f1, mono xs _ _ g1 fun P v ⟨d, hd, hk⟩ H' a1 a2 a3 => ?_⟩
    have gP : ∀ {a : Addr} {o : HO}, P a = some o → G1 a = none := fun {a o} z => (h1.none_of (a3 a o z)).1
    let G2 : Hp := fun a => match P a with
      | some o => some o
      | none => G1 a
    have s1 : Ex G1 G2 := fun a o z => by
      show (match P a with | some o => some o | none => G1 a) = some o
      cases y : P a with
      | some u => rw [gP y] at z; cases z
      | none => exact z
    have s2 : Ex P G2 := fun a o z => by
      show (match P a with | some o => some o | none => G1 a) = some o
      rw [z]
    refine q v G2 H' (.d d) p1 (h1.ext a1 (fun a o z => ?_) s1 fun a o z1 z2 => ?_) (e1.trans s1) (R.up hd s2) hk
    · have z' : (match P a with | some o => some o | none => G1 a) = some o := z
      cases y : P a with
      | some u => rw [y] at z'; exact a2 a o (by rw [y]; exact z')
      | none => rw [y] at z'; exact a1 _ _ (h1.sub _ _ z')
    · show (match P a with | some o => some o | none => G1 a) = none
      cases y : P a with
      | some u => rw [a3 a u y] at z1; cases z1
      | none => exact z2
end
section
variable {P : Program} {w : World} {K : PySem.W.Frag} {mg : Str → Option Value} {base : Heap} {k : Nat} {f : Addr} {fd : FuncData} {ps : List Str}
theorem fgW {F : List D → (Hp → V → Prop) → Prop} {x qual : Str} {st : Stmt} {N : List Str} (Fn : Fun K x qual st f fd) (S : FnScope N ps (defScope st)) (len : ∀ ds k, F ds k → ds.length = ps.length)
    (go : ∀ (cdv : Value) (B : Around) (fr : List Env) (s : Shared) (H : Hp) (E : XK), B.guards = some [] → Room k (B.deeper (envOfC qual (defScope st) s.heap.objs.size f cdv)) → ∃ t, PSs (cxOf CX0 P w K mg base N qual (defScope st) f cdv B fr s H E).nox (defBody st) t ∧
      ∀ (c : Cn) ds (k : Hp → V → Prop), c.pool = none → F ds k → ∀ (D' : Ends) (G0 : Hp), (∀ P v H', k P v → Ex c.H0 H' → Ex P H' → (∀ a o, P a = some o → c.H0 a = none) → D'.rt v H') → WSK c t (slotsD N ds) [] D' G0) : FG P w K mg base (k + 1) f fd ps (spW F) := by
  refine fg_of Fn S (fun vs H Q E h => ?_) fun cdv B fr s H vs Q E hg hr h => ?_
  · obtain ⟨G, ds, s1, r, h⟩ := h
    rw [r.len]
    exact len _ _ h
  · obtain ⟨t, der, body⟩ := go cdv B fr s H E hg hr
    refine ⟨t, der, ?_⟩
    obtain ⟨G, ds, s0, r, h⟩ := h
    exact body _ ds _ rfl h { nx := fun _ H' => Q .non H', rt := Q } G (fun P v H' hk a1 a2 a3 => hk H' a1 a2 a3) G _ H (hs_start s0 r) (Ex.refl _)
end

/-! ### combs copied, devices mirrored -/
def combP (c : Comb) (a la : Addr) : Hp := fun b => if b = a then some (.tup [.int c.p, .ref la]) else if b = la then some (.lst (c.ts.map V.int)) else none
theorem combP_r {c : Comb} {a la : Addr} (n : a ≠ la) : R (combP c a la) (.ref a) c.d := by
  refine .tup (xs := [.int c.p, .ref la]) (if_pos rfl) (.cons (.int _) (.cons (.lst (xs := c.ts.map V.int) ?_ (RA.of_ints _)) .nil))
  unfold combP
  rw [if_neg (Ne.symm n), if_pos rfl]
def copyF : List D → (Hp → V → Prop) → Prop := fun ds k => ∃ c : Comb, ds = [c.d] ∧ ∀ a la, a ≠ la → k (combP c a la) (.ref a)
theorem copyF_mono : ∀ xs k k', copyF xs k → (∀ P v, k P v → k' P v) → copyF xs k' := fun _ _ _ ⟨c, e, h⟩ g => ⟨c, e, fun a la n => g _ _ (h a la n)⟩
def orP (P P' : Hp) : Hp := fun a => match P a with
  | some o => some o
  | none => P' a
theorem orP_or {P P' : Hp} {a : Addr} {o : HO} (h : orP P P' a = some o) : P a = some o ∨ P' a = some o := by
  unfold orP at h
  cases e : P a with
  | some u => rw [e] at h; exact .inl h
  | none => rw [e] at h; exact .inr h
structure Mir (v : Dv) (t a b la lb : Addr) : Prop where
  n1 : a ≠ la
  n2 : b ≠ lb
  n3 : la ≠ lb
  n4 : a ≠ b
  n5 : a ≠ lb
  n6 : b ≠ la
  n7 : t ≠ a
  n8 : t ≠ b
  n9 : t ≠ la
  n10 : t ≠ lb
def mirP (v : Dv) (t a b la lb : Addr) : Hp := fun x => if x = t then some (.tup [.ref a, .ref b]) else orP (combP v.2 a la) (combP v.1 b lb) x
def mirF : List D → (Hp → V → Prop) → Prop := fun ds k => ∃ v : Dv, ds = [v.d] ∧ v.Ok ∧ ∀ t a b la lb, Mir v t a b la lb → k (mirP v t a b la lb) (.ref t)
theorem combP_some {c : Comb} {a la x : Addr} {o : HO} (h : combP c a la x = some o) : x = a ∨ x = la := by
  unfold combP at h
  by_cases e : x = a
  · exact .inl e
  · by_cases e2 : x = la
    · exact .inr e2
    · rw [if_neg e, if_neg e2] at h; cases h
section
variable {v : Dv} {t a b la lb : Addr} (m : Mir v t a b la lb)
include m
theorem Mir.at_t : mirP v t a b la lb t = some (.tup [.ref a, .ref b]) := if_pos rfl
theorem Mir.at_a : mirP v t a b la lb a = some (.tup [.int v.2.p, .ref la]) := by
  unfold mirP orP combP
  rw [if_neg (Ne.symm m.n7), if_pos rfl]
theorem Mir.at_la : mirP v t a b la lb la = some (.lst (v.2.ts.map V.int)) := by
  unfold mirP orP combP
  rw [if_neg (Ne.symm m.n9), if_neg (Ne.symm m.n1), if_pos rfl]
theorem Mir.at_b : mirP v t a b la lb b = some (.tup [.int v.1.p, .ref lb]) := by
  unfold mirP orP combP
  rw [if_neg (Ne.symm m.n8), if_neg (Ne.symm m.n4), if_neg m.n6, if_pos rfl]
theorem Mir.at_lb : mirP v t a b la lb lb = some (.lst (v.1.ts.map V.int)) := by
  unfold mirP orP combP
  rw [if_neg (Ne.symm m.n10), if_neg (Ne.symm m.n5), if_neg (Ne.symm m.n3), if_neg (Ne.symm m.n2), if_pos rfl]
theorem Mir.r : R (mirP v t a b la lb) (.ref t) (Dv.d (v.2, v.1)) :=
  .tup m.at_t (.cons (.tup m.at_a (.cons (.int _) (.cons (.lst m.at_la (RA.of_ints _)) .nil))) (.cons (.tup m.at_b (.cons (.int _) (.cons (.lst m.at_lb (RA.of_ints _)) .nil))) .nil))
theorem Mir.all {x : Addr} {o : HO} (h : mirP v t a b la lb x = some o) : x = t ∨ x = a ∨ x = la ∨ x = b ∨ x = lb := by
  unfold mirP at h
  by_cases e : x = t
  · exact .inl e
  · rw [if_neg e] at h
    rcases orP_or h with h | h
    · rcases combP_some h with h | h
      · exact .inr (.inl h)
      · exact .inr (.inr (.inl h))
    · rcases combP_some h with h | h
      · exact .inr (.inr (.inr (.inl h)))
      · exact .inr (.inr (.inr (.inr h)))
end
end PD

/-! PD18: pinned things lent to an expression, changed; owned lists lent to a test -/
namespace PD
open PySem PySem.Spec PyProof.Rows L2 Evl
section
variable {c : Cn} {K : PySem.W.Frag} {ds : DS} {pl : List D} {t u : TS} {D' : Ends} {G0 : Hp} {E : EE} {Φ : W → List D → Prop} {tt : TT} {te : TE}
theorem HS.unpinP {G H P : Hp} {σ : L2.St} (h : HS (c.pinP P) G σ H ds pl) (F : Fresh c P) : HS c G σ H ds pl := by
  have pn : ∀ {a : Addr}, (c.pinP P).pin a = none → c.pin a = none := fun {a} q => by
    cases z : P a with
    | none => rw [pinP_none z] at q; exact q
    | some u => rw [pinP_at z] at q; cases q
  refine ⟨h.sub, h.gh, h.gq, fun a o q => ?_, h.keep, fun p z => ?_, fun a o q => ?_, h.hid, h.len, fun i w q => ?_, h.own⟩
  · cases z : P a with
    | none => exact h.gn a o (by rw [pinP_none z]; exact q)
    | some u => exact h.gn a u (pinP_at z)
  · obtain ⟨b1, b2, b3⟩ := h.pl p z
    exact ⟨b1, pn b2, b3⟩
  · cases z : P a with
    | none => exact h.pin a o (by rw [pinP_none z]; exact q)
    | some u => rw [(F a u z).2.1] at q; cases q
  · obtain ⟨v, e1, e3⟩ := h.slots i w q
    refine ⟨v, e1, ?_⟩
    cases w with
    | d x => exact e3
    | v x => exact e3
    | o ys =>
      obtain ⟨p', vs, rfl, a1, a2, a3, a4, a5, a6, a7⟩ := e3
      exact ⟨p', vs, rfl, a1, a2, a3, a4, pn a5, a6, a7⟩
theorem Fits.pinP {P : Hp} (F : Fresh c P) (f : Fits c G0 D' E) : Fits (c.pinP P) G0 D' E := by
  refine ⟨fun G' σ' H' ds' pl' h e w => f.nx G' σ' H' ds' pl' (h.unpinP F) e w, fun v G' σ' H' ds' w pl' h e q z => f.rt v G' σ' H' ds' w pl' (h.unpinP F) e ?_ z, fun G' σ' H' ds' pl' h e w => f.bk G' σ' H' ds' pl' (h.unpinP F) e w, fun G' σ' H' ds' pl' h e w => f.ct G' σ' H' ds' pl' (h.unpinP F) e w⟩
  cases w with
  | d x => exact q
  | v x => exact q
  | o ys =>
    obtain ⟨p', vs, rfl, a1, a2, a3, a4, a5, a6, a7⟩ := q
    refine ⟨p', vs, rfl, a1, a2, a3, a4, ?_, a6, a7⟩
    cases z : P p' with
    | none => rw [pinP_none z] at a5; exact a5
    | some u => rw [pinP_at z] at a5; cases a5
/-! ### an owned list lent to a test -/
end
end PD

/-! PD19: moves of one direction, joined moves (mathematics) -/
namespace PD
open PySem PySem.Spec PyProof.Rows L2 Evl
theorem flo_uniq {c : Comb} (ok : c.Ok) {n b : Int} (h : IsBelow c n b) : flo c n = b := (flo_spec ok n).uniq h
theorem flo_le {c : Comb} (ok : c.Ok) (n : Int) : flo c n ≤ n := (flo_spec ok n).1
theorem flo_between {c : Comb} (ok : c.Ok) {n m : Int} (h1 : flo c n ≤ m) (h2 : m ≤ n) : flo c m = flo c n := by
  obtain ⟨a1, a2, a3⟩ := flo_spec ok n
  exact flo_uniq ok ⟨h1, a2, fun x x1 x2 => a3 x x1 (by omega)⟩
theorem flo_flo {c : Comb} (ok : c.Ok) (n : Int) : flo c (flo c n) = flo c n := flo_between ok (Int.le_refl _) (flo_le ok n)
theorem flo_mono {c : Comb} (ok : c.Ok) {n m : Int} (h : n ≤ m) : flo c n ≤ flo c m := by
  obtain ⟨a1, a2, a3⟩ := flo_spec ok m
  obtain ⟨b1, b2, b3⟩ := flo_spec ok n
  by_cases z : flo c n ≤ flo c m
  · exact z
  · have := a3 (flo c n) (by omega) (by omega)
    rw [b2] at this
    cases this
theorem mv_up {v : Dv} {s : Sv} {m : Int} (h : 0 < m) : mv v s m = (s.2 + m + max (s.1 - s.2 - m) (flo v.2 (s.1 - s.2)), s.2 + m) := if_pos h
theorem mv_down {v : Dv} {s : Sv} {m : Int} (h : ¬ 0 < m) : mv v s m = (max (s.1 + m) (flo v.1 s.1), s.2 + m) := if_neg h
def absS (ms : List Int) : Nat := (ms.map Int.natAbs).sum
theorem absS_le {B : Nat} : ∀ {ms : List Int}, (∀ x ∈ ms, x.natAbs ≤ B) → absS ms ≤ ms.length * B
  | [], _ => Nat.zero_le _
  | y :: r, h => by
    have e : absS (y :: r) = y.natAbs + absS r := by unfold absS; rw [List.map_cons, List.sum_cons]
    have h1 := h y List.mem_cons_self
    have h2 := absS_le (ms := r) fun x hx => h x (List.mem_cons_of_mem _ hx)
    rw [e, List.length_cons, Nat.add_mul]
    omega
end PD

/-! PD20: slots without owned lists, by computing -/
namespace PD
open PySem PySem.Spec PyProof.Rows L2 Evl
def noOs : DS → Bool
  | [] => true
  | some (.o _) :: _ => false
  | _ :: r => noOs r
theorem no_of : ∀ {ds : DS}, noOs ds = true → ∀ (j : Nat) (ys : List D), ds[j]? ≠ some (some (W.o ys))
  | [], _, j, ys => by simp
  | none :: r, h, 0, ys => by simp
  | none :: r, h, j + 1, ys => by rw [List.getElem?_cons_succ]; exact no_of (ds := r) h j ys
  | some (.d x) :: r, h, 0, ys => by simp
  | some (.d x) :: r, h, j + 1, ys => by rw [List.getElem?_cons_succ]; exact no_of (ds := r) h j ys
  | some (.v x) :: r, h, 0, ys => by simp
  | some (.v x) :: r, h, j + 1, ys => by rw [List.getElem?_cons_succ]; exact no_of (ds := r) h j ys
  | some (.o x) :: r, h, _, ys => by cases h
theorem HS.forget {c : Cn} {G H : Hp} {σ : L2.St} {ds : DS} {pl : List D} (h : HS c G σ H ds pl) (i : Nat) : HS c G σ H (ds.set i none) pl := by
  have key : ∀ {j : Nat} {w : W}, (ds.set i none)[j]? = some (some w) → ds[j]? = some (some w) := fun {j w} q => by
    by_cases e : i = j
    · subst e
      have hl : i < ds.length := by
        have := (List.getElem?_eq_some_iff.mp q).1
        rw [List.length_set] at this
        exact this
      rw [List.getElem?_set_self hl] at q; cases q
    · rw [List.getElem?_set_ne e] at q; exact q
  exact ⟨h.sub, h.gh, h.gq, h.gn, h.keep, h.pl, h.pin, h.hid, by rw [List.length_set]; exact h.len, fun j w q => h.slots j w (key q), fun j k p xs ys q1 q2 q3 q4 => h.own j k p xs ys (key q1) (key q2) q3 q4⟩
theorem ws_forget {c : Cn} {ds : DS} {pl : List D} {t : TS} {E : EE} (i : Nat) (h : WS c t (ds.set i none) pl E) : WS c t ds pl E := fun G σ H hs D' f => h G σ H (hs.forget i) D' f
/-! ### mirrors -/
def mirS (s : Sv) : Sv := (s.1 - s.2, -s.2)
end PD

/-! PD21: slacks, moves done several times, cycles (mathematics) -/
namespace PD
open PySem PySem.Spec PyProof.Rows L2 Evl
def slk (c : Comb) (n : Int) : Int := n - flo c n
def sl (c : Comb) : List Int := (List.range c.p.toNat).map fun (r : Nat) => slk c (r : Int)
theorem flo_shift {c : Comb} (ok : c.Ok) (n k : Int) : flo c (n + c.p * k) = flo c n + c.p * k := by
  have hp : c.p ≠ 0 := by have := ok.p1; omega
  have e : (n + c.p * k) % c.p = n % c.p := Int.add_mul_emod_self_left ..
  unfold flo
  rw [e]
  split <;> omega
theorem slk_shift {c : Comb} (ok : c.Ok) (n k : Int) : slk c (n + c.p * k) = slk c n := by
  unfold slk
  rw [flo_shift ok]
  omega
theorem slk_mod {c : Comb} (ok : c.Ok) (n : Int) : slk c (n % c.p) = slk c n := by
  have e : n = n % c.p + c.p * (n / c.p) := (Int.emod_add_mul_ediv n c.p).symm
  conv => rhs; rw [e]
  rw [slk_shift ok]
theorem slk_nn {c : Comb} (ok : c.Ok) (n : Int) : 0 ≤ slk c n := by
  have := flo_le ok n
  unfold slk; omega
theorem sl_len {c : Comb} (ok : c.Ok) : ((sl c).length : Int) = c.p := by
  have := ok.p1
  unfold sl
  rw [List.length_map, List.length_range]
  omega
theorem sl_at {c : Comb} (ok : c.Ok) (n : Int) : atI ((sl c).map PyData.int) (n % c.p) = some (.int (slk c n)) := by
  have p1 := ok.p1
  have r0 := Int.emod_nonneg n (show c.p ≠ 0 by omega)
  have r1 := Int.emod_lt_of_pos n (show 0 < c.p by omega)
  have e : n % c.p = (((n % c.p).toNat : Nat) : Int) := by omega
  rw [e]
  refine atI_nat ?_
  unfold sl
  rw [List.map_map, List.getElem?_map, List.getElem?_range (by omega)]
  show some (PyData.int (slk c (((n % c.p).toNat : Nat) : Int))) = _
  rw [← e, slk_mod ok]
abbrev lf (s : Sv) : Int := s.1 - s.2
theorem mv_up' {v : Dv} {s : Sv} {m : Int} (h : 0 < m) : mv v s m = (s.1 + m - min m (slk v.2 (lf s)), s.2 + m) := by
  rw [mv_up h]
  unfold slk lf
  ext
  · show s.2 + m + max (s.1 - s.2 - m) (flo v.2 (s.1 - s.2)) = s.1 + m - min m (s.1 - s.2 - flo v.2 (s.1 - s.2)); omega
  · rfl
theorem mv_down' {v : Dv} {s : Sv} {m : Int} (h : ¬ 0 < m) : mv v s m = (s.1 - min (-m) (slk v.1 s.1), s.2 + m) := by
  rw [mv_down h]
  unfold slk
  ext
  · show max (s.1 + m) (flo v.1 s.1) = s.1 - min (-m) (s.1 - flo v.1 s.1); omega
  · rfl
def rp (v : Dv) (ms : List Int) (s : Sv) : Nat → Sv
  | 0 => s
  | k + 1 => mvs v (rp v ms s k) ms
theorem rp_add (v : Dv) (ms : List Int) (s : Sv) (i : Nat) : ∀ k : Nat, rp v ms s (i + k) = rp v ms (rp v ms s i) k
  | 0 => rfl
  | k + 1 => by
    show mvs v (rp v ms s (i + k)) ms = mvs v (rp v ms (rp v ms s i) k) ms
    rw [rp_add v ms s i k]
def plc (v : Dv) (s : Sv) : Int × Int := (s.1 % v.1.p, lf s % v.2.p)
theorem mod_eq_shift {p a b : Int} (h : a % p = b % p) : ∃ k, b = a + p * k :=
  ⟨b / p - a / p, by
    have e1 := Int.emod_add_mul_ediv a p
    have e2 := Int.emod_add_mul_ediv b p
    rw [Int.mul_sub]
    omega⟩
theorem mv_shift {v : Dv} (ok : v.Ok) {s t : Sv} (h : plc v s = plc v t) (m : Int) : mv v t m = ((mv v s m).1 + (t.1 - s.1), (mv v s m).2 + (t.2 - s.2)) := by
  obtain ⟨k1, e1⟩ := mod_eq_shift (congrArg Prod.fst h)
  obtain ⟨k2, e2⟩ := mod_eq_shift (congrArg Prod.snd h)
  have f1 : slk v.1 t.1 = slk v.1 s.1 := by
    have e1' : t.1 = s.1 + v.1.p * k1 := e1
    rw [e1', slk_shift ok.1]
  have f2 : slk v.2 (lf t) = slk v.2 (lf s) := by
    have e2' : lf t = lf s + v.2.p * k2 := e2
    rw [e2', slk_shift ok.2]
  by_cases z : 0 < m
  · rw [mv_up' z, mv_up' z, f2]
    ext
    · show t.1 + m - min m (slk v.2 (lf s)) = s.1 + m - min m (slk v.2 (lf s)) + (t.1 - s.1); omega
    · show t.2 + m = s.2 + m + (t.2 - s.2); omega
  · rw [mv_down' z, mv_down' z, f1]
    ext
    · show t.1 - min (-m) (slk v.1 s.1) = s.1 - min (-m) (slk v.1 s.1) + (t.1 - s.1); omega
    · show t.2 + m = s.2 + m + (t.2 - s.2); omega
theorem plc_shift {v : Dv} {s t s' t' : Sv} (h : plc v s = plc v t) (e : t' = (s'.1 + (t.1 - s.1), s'.2 + (t.2 - s.2))) : plc v s' = plc v t' := by
  obtain ⟨k1, e1⟩ := mod_eq_shift (congrArg Prod.fst h)
  obtain ⟨k2, e2⟩ := mod_eq_shift (congrArg Prod.snd h)
  have e1' : t.1 = s.1 + v.1.p * k1 := e1
  have e2' : lf t = lf s + v.2.p * k2 := e2
  subst e
  unfold plc
  have a1 : s'.1 + (t.1 - s.1) = s'.1 + v.1.p * k1 := by omega
  have a2 : lf (s'.1 + (t.1 - s.1), s'.2 + (t.2 - s.2)) = lf s' + v.2.p * k2 := by
    show s'.1 + (t.1 - s.1) - (s'.2 + (t.2 - s.2)) = s'.1 - s'.2 + v.2.p * k2
    unfold lf at e2'
    omega
  show (s'.1 % v.1.p, lf s' % v.2.p) = ((s'.1 + (t.1 - s.1)) % v.1.p, lf (s'.1 + (t.1 - s.1), s'.2 + (t.2 - s.2)) % v.2.p)
  rw [a2, a1, Int.add_mul_emod_self_left, Int.add_mul_emod_self_left]
theorem mvs_shift {v : Dv} (ok : v.Ok) : ∀ (ms : List Int) {s t : Sv}, plc v s = plc v t → mvs v t ms = ((mvs v s ms).1 + (t.1 - s.1), (mvs v s ms).2 + (t.2 - s.2))
  | [], s, t, h => by
    show t = (s.1 + (t.1 - s.1), s.2 + (t.2 - s.2))
    ext
    · show t.1 = s.1 + (t.1 - s.1); omega
    · show t.2 = s.2 + (t.2 - s.2); omega
  | m :: r, s, t, h => by
    have e := mv_shift ok h m
    have h2 := plc_shift h e
    show mvs v (mv v t m) r = _
    rw [mvs_shift ok r h2, e]
    ext
    · show (mvs v (mv v s m) r).1 + ((mv v s m).1 + (t.1 - s.1) - (mv v s m).1) = (mvs v (mv v s m) r).1 + (t.1 - s.1); omega
    · show (mvs v (mv v s m) r).2 + ((mv v s m).2 + (t.2 - s.2) - (mv v s m).2) = (mvs v (mv v s m) r).2 + (t.2 - s.2); omega
theorem rp_shift {v : Dv} (ok : v.Ok) (ms : List Int) {s t : Sv} (h : plc v s = plc v t) : ∀ k : Nat, rp v ms t k = ((rp v ms s k).1 + (t.1 - s.1), (rp v ms s k).2 + (t.2 - s.2))
  | 0 => by
    show t = (s.1 + (t.1 - s.1), s.2 + (t.2 - s.2))
    ext
    · show t.1 = s.1 + (t.1 - s.1); omega
    · show t.2 = s.2 + (t.2 - s.2); omega
  | k + 1 => by
    have e := rp_shift ok ms h k
    have h2 := plc_shift h e
    show mvs v (rp v ms t k) ms = _
    rw [mvs_shift ok ms h2, e]
    ext
    · show (mvs v (rp v ms s k) ms).1 + ((rp v ms s k).1 + (t.1 - s.1) - (rp v ms s k).1) = (mvs v (rp v ms s k) ms).1 + (t.1 - s.1); omega
    · show (mvs v (rp v ms s k) ms).2 + ((rp v ms s k).2 + (t.2 - s.2) - (rp v ms s k).2) = (mvs v (rp v ms s k) ms).2 + (t.2 - s.2); omega
theorem mv_hand (v : Dv) (s : Sv) (m : Int) : (mv v s m).2 = s.2 + m := by
  unfold mv; split <;> rfl
theorem mvs_hand (v : Dv) : ∀ (ms : List Int) (s : Sv), (mvs v s ms).2 = s.2 + ms.sum
  | [], s => by show s.2 = s.2 + 0; omega
  | m :: r, s => by
    show (mvs v (mv v s m) r).2 = _
    rw [mvs_hand v r, mv_hand, List.sum_cons]
    omega
theorem rp_hand (v : Dv) (ms : List Int) (s : Sv) : ∀ k : Nat, (rp v ms s k).2 = s.2 + (k : Int) * ms.sum
  | 0 => by show s.2 = s.2 + ((0 : Nat) : Int) * _; simp
  | k + 1 => by
    show (mvs v (rp v ms s k) ms).2 = _
    rw [mvs_hand, rp_hand v ms s k]
    have e : ((k + 1 : Nat) : Int) = (k : Int) + 1 := by omega
    rw [e, Int.add_mul]
    omega
structure Cyc (v : Dv) (ms : List Int) (s : Sv) (n j : Nat) : Prop where
  lt : j < n
  eq : plc v (rp v ms s j) = plc v (rp v ms s n)
  inj : ∀ i k, i < k → k < n → plc v (rp v ms s i) ≠ plc v (rp v ms s k)
theorem Cyc.uniq {v : Dv} {ms : List Int} {s : Sv} {n j n' j' : Nat} (a : Cyc v ms s n j) (b : Cyc v ms s n' j') : n = n' ∧ j = j' := by
  have e : n = n' := by
    rcases Nat.lt_trichotomy n n' with h | h | h
    · exact absurd a.eq (b.inj j n a.lt h)
    · exact h
    · exact absurd b.eq (a.inj j' n' b.lt h)
  subst e
  refine ⟨rfl, ?_⟩
  rcases Nat.lt_trichotomy j j' with h | h | h
  · exact absurd (a.eq.trans b.eq.symm) (a.inj j j' h b.lt)
  · exact h
  · exact absurd (b.eq.trans a.eq.symm) (a.inj j' j h a.lt)
theorem pigeon : ∀ (M : Nat) (n : Nat) (f : Nat → Nat), (∀ i, i < n → f i < M) → (∀ i k, i < k → k < n → f i ≠ f k) → n ≤ M
  | 0, n, f, h, _ => by
    rcases Nat.eq_zero_or_pos n with z | z
    · omega
    · have := h 0 z; omega
  | M + 1, n, f, h, inj => by
    by_cases z : ∃ i, i < n ∧ f i = M
    · obtain ⟨i, hi, e⟩ := z
      have := pigeon M (n - 1) (fun k => if k < i then f k else f (k + 1)) (fun k hk => by
        show (if k < i then f k else f (k + 1)) < M
        split
        · rename_i y
          have h1 := h k (by omega)
          have h2 := inj k i y hi
          omega
        · rename_i y
          have h1 := h (k + 1) (by omega)
          have h2 := inj i (k + 1) (by omega) (by omega)
          omega) (fun a b hab hb => by
        show (if a < i then f a else f (a + 1)) ≠ (if b < i then f b else f (b + 1))
        by_cases y1 : a < i
        · by_cases y2 : b < i
          · rw [if_pos y1, if_pos y2]; exact inj a b hab (by omega)
          · rw [if_pos y1, if_neg y2]; exact inj a (b + 1) (by omega) (by omega)
        · rw [if_neg y1, if_neg (show ¬ b < i by omega)]; exact inj (a + 1) (b + 1) (by omega) (by omega))
      omega
    · have := pigeon M n f (fun i hi => by
        have h1 := h i hi
        have h2 : f i ≠ M := fun e => z ⟨i, hi, e⟩
        omega) inj
      omega
theorem inj_le {v : Dv} (ok : v.Ok) {ms : List Int} {s : Sv} {n : Nat} (inj : ∀ i k, i < k → k < n → plc v (rp v ms s i) ≠ plc v (rp v ms s k)) : n ≤ 576 := by
  have p1 := ok.1.p1
  have p2 := ok.1.p24
  have q1 := ok.2.p1
  have q2 := ok.2.p24
  have b : ∀ i, 0 ≤ (plc v (rp v ms s i)).1 ∧ (plc v (rp v ms s i)).1 < 24 ∧ 0 ≤ (plc v (rp v ms s i)).2 ∧ (plc v (rp v ms s i)).2 < 24 := fun i => by
    have a1 := Int.emod_nonneg (rp v ms s i).1 (show v.1.p ≠ 0 by omega)
    have a2 := Int.emod_lt_of_pos (rp v ms s i).1 (show 0 < v.1.p by omega)
    have a3 := Int.emod_nonneg (lf (rp v ms s i)) (show v.2.p ≠ 0 by omega)
    have a4 := Int.emod_lt_of_pos (lf (rp v ms s i)) (show 0 < v.2.p by omega)
    unfold plc
    omega
  refine pigeon 576 n (fun i => ((plc v (rp v ms s i)).1 * 24 + (plc v (rp v ms s i)).2).toNat) (fun i hi => ?_) (fun i k hik hk e => ?_)
  · have := b i
    show ((plc v (rp v ms s i)).1 * 24 + (plc v (rp v ms s i)).2).toNat < 576
    omega
  · have h1 := b i
    have h2 := b k
    have e' : ((plc v (rp v ms s i)).1 * 24 + (plc v (rp v ms s i)).2).toNat = ((plc v (rp v ms s k)).1 * 24 + (plc v (rp v ms s k)).2).toNat := e
    refine inj i k hik hk ?_
    ext
    · omega
    · omega
theorem Cyc.le {v : Dv} (ok : v.Ok) {ms : List Int} {s : Sv} {n j : Nat} (c : Cyc v ms s n j) : n ≤ 576 := inj_le ok c.inj
theorem Cyc.shift {v : Dv} (ok : v.Ok) {ms : List Int} {s : Sv} {n j : Nat} (c : Cyc v ms s n j) (i : Nat) : (rp v ms s (n + i)).1 = (rp v ms s (j + i)).1 + ((rp v ms s n).1 - (rp v ms s j).1) := by
  rw [rp_add, rp_add, rp_shift ok ms c.eq i]
theorem Cyc.many {v : Dv} (ok : v.Ok) {ms : List Int} {s : Sv} {n j : Nat} (c : Cyc v ms s n j) (i : Nat) : ∀ k : Nat, (rp v ms s (j + i + (n - j) * k)).1 = (rp v ms s (j + i)).1 + (k : Int) * ((rp v ms s n).1 - (rp v ms s j).1)
  | 0 => by simp
  | k + 1 => by
    have lt := c.lt
    have e : j + i + (n - j) * (k + 1) = n + (i + (n - j) * k) := by rw [Nat.mul_add]; omega
    have e2 : ((k + 1 : Nat) : Int) = (k : Int) + 1 := by omega
    rw [e, c.shift ok, show j + (i + (n - j) * k) = j + i + (n - j) * k by omega, c.many ok i k, e2, Int.add_mul]
    omega
theorem Cyc.far {v : Dv} (ok : v.Ok) {ms : List Int} {s : Sv} {n j : Nat} (c : Cyc v ms s n j) {t : Nat} (h : j ≤ t) : (rp v ms s (j + (t - j) % (n - j))).1 + (((t - j) / (n - j) : Nat) : Int) * ((rp v ms s n).1 - (rp v ms s j).1) = (rp v ms s t).1 := by
  rw [← c.many ok]
  congr 2
  have := Nat.mod_add_div (t - j) (n - j)
  omega
theorem rp_bound {v : Dv} (ok : v.Ok) {M : Nat} {ms : List Int} (hm : ∀ m ∈ ms, m.natAbs ≤ M) (s : Sv) : ∀ k : Nat, (rp v ms s k).1.natAbs ≤ s.1.natAbs + k * (ms.length * (M + 48)) ∧ (rp v ms s k).2.natAbs ≤ s.2.natAbs + k * (ms.length * (M + 48))
  | 0 => by
    show s.1.natAbs ≤ s.1.natAbs + 0 * _ ∧ s.2.natAbs ≤ s.2.natAbs + 0 * _
    omega
  | k + 1 => by
    obtain ⟨h1, h2⟩ := rp_bound ok hm s k
    have h3 := mvs_bound ok M ms (rp v ms s k) hm
    rw [Nat.add_mul, Nat.one_mul]
    exact ⟨by have := h3.1; show (mvs v (rp v ms s k) ms).1.natAbs ≤ _; omega, by have := h3.2; show (mvs v (rp v ms s k) ms).2.natAbs ≤ _; omega⟩
end PD

/-! PD22: a dict of places; sums, divmod -/
namespace PD
open PySem PySem.Spec PyProof.Rows L2 Evl
def one (p : Addr) (o : HO) : Hp := fun a => if a = p then some o else none
theorem one_at {p : Addr} {o : HO} : one p o p = some o := if_pos rfl
theorem one_some {p a : Addr} {o u : HO} (h : one p o a = some u) : a = p ∧ u = o := by
  unfold one at h
  by_cases e : a = p
  · rw [if_pos e] at h; exact ⟨e, (Option.some.inj h).symm⟩
  · rw [if_neg e] at h; cases h
theorem one_upd {p : Addr} {o u : HO} : upd (one p o) p u = one p u := by
  funext b
  unfold upd one
  split <;> rfl
section
variable {c : Cn} {K : PySem.W.Frag} {ds : DS} {pl : List D} {t u body : TS} {D' : Ends} {G0 : Hp} {E : EE} {Φ : W → List D → Prop} {te : TE} {tr : TA}
theorem HS.repin {G H P : Hp} {σ : L2.St} {la : Addr} {o o' : HO} (hs : HS (c.pinP P) G σ H ds pl) (F : Fresh c P) (h4 : P la = some o) : Fresh c (upd P la o') ∧ HS (c.pinP (upd P la o')) G σ (upd H la o') ds pl := by
  have F' : Fresh c (upd P la o') := fun b u q => by
    by_cases z : b = la
    · subst z; exact F _ _ h4
    · rw [upd_ne z] at q; exact F _ _ q
  have nn : ∀ {b : Addr}, (c.pinP P).pin b = none → b ≠ la ∧ (c.pinP (upd P la o')).pin b = none := fun {b} q => by
    have n : b ≠ la := fun z => by rw [z, pinP_at h4] at q; cases q
    refine ⟨n, ?_⟩
    cases z : P b with
    | none => rw [pinP_none z] at q; rw [pinP_none (by rw [upd_ne n]; exact z)]; exact q
    | some u => rw [pinP_at z] at q; cases q
  refine ⟨F', fun b o q => ?_, hs.gh, hs.gq, fun b o q => ?_, fun b o q1 q2 => ?_, fun p z => ?_, fun b o q => ?_, fun b q => ?_, hs.len, fun j w q => ?_, hs.own⟩
  · rw [upd_ne (fun z => by rw [z, hs.gn _ _ (pinP_at h4)] at q; cases q)]; exact hs.sub b o q
  · rcases pinP_or q with q | ⟨_, q⟩
    · by_cases z : b = la
      · subst z; exact hs.gn _ _ (pinP_at h4)
      · rw [upd_ne z] at q; exact hs.gn _ _ (pinP_at q)
    · cases z : P b with
      | none => exact hs.gn b o (by rw [pinP_none z]; exact q)
      | some u => exact hs.gn b u (pinP_at z)
  · rw [upd_ne (fun z => by have q3 : c.H0 b = some o := q2; rw [z, (F _ _ h4).1] at q3; cases q3)]; exact hs.keep b o q1 q2
  · obtain ⟨b1, b2, vs, b3, b4⟩ := hs.pl p z
    obtain ⟨n1, n2⟩ := nn b2
    exact ⟨b1, n2, vs, by rw [upd_ne n1]; exact b3, b4⟩
  · rcases pinP_or q with q | ⟨q0, q⟩
    · by_cases z : b = la
      · subst z; rw [upd_same] at q ⊢; exact q
      · rw [upd_ne z] at q ⊢; exact hs.pin _ _ (pinP_at q)
    · have n : b ≠ la := fun z => by subst z; rw [upd_same] at q0; cases q0
      rw [upd_ne n] at q0 ⊢
      exact hs.pin b o (by rw [pinP_none q0]; exact q)
  · by_cases z : b = la
    · subst z; exact ⟨_, upd_same⟩
    · rw [upd_ne z]; exact hs.hid b q
  · obtain ⟨v, d1, d2⟩ := hs.slots j w q
    refine ⟨v, d1, ?_⟩
    cases w with
    | d x => exact d2
    | v x => exact d2
    | o zs =>
      obtain ⟨p', vs, rfl, a1, a2, a3, a4, a5, a6, a7⟩ := d2
      obtain ⟨n1, n2⟩ := nn a5
      exact ⟨p', vs, rfl, by rw [upd_ne n1]; exact a1, a2, a3, a4, n2, a6, a7⟩
theorem wsk_dnew {i : Nat} (h : ∀ p, Fresh c (one p (.dT [])) → WSK (c.pinP (one p (.dT []))) u (ds.set i (some (.v (.ref p)))) pl D' G0) : WSK c (tSeq (tAsg tDNewT (gName i)) u) ds pl D' G0 := fun G σ H hs e => fun p hp => by
  have n := hs.none_of hp
  have F : Fresh c (one p (.dT [])) := fun a o q => by
    obtain ⟨rfl, rfl⟩ := one_some q
    exact ⟨n.2.2.2.2, n.2.2.1, n.2.1, n.2.2.2.1⟩
  refine h p F G _ _ ((hs.pinNew (Ex.new hp) fun a o q => ?_).setV i (.ref p)) e
  obtain ⟨rfl, rfl⟩ := one_some q
  exact ⟨upd_same, hp⟩
abbrev pk2 (a b : Int) : List Key := [.inl a, .inl b]
theorem key_at {G H : Hp} {σ : L2.St} {ip : Nat} {a b : Int} (hs : HS c G σ H ds pl) (hi : ds[ip]? = some (some (.d (.tuple [.int a, .int b])))) : ∃ q, σ[ip]? = some (some (.ref q)) ∧ H q = some (.tup ((pk2 a b).map kV)) := by
  obtain ⟨v, e1, e2⟩ := hs.slots ip _ hi
  obtain ⟨y, x1, x2, rfl, k1, k2, k3⟩ := pair_raw (show R G v (.tuple [.int a, .int b]) from e2)
  cases k2
  cases k3
  exact ⟨y, e1, hs.sub _ _ k1⟩
theorem dict_at {G H P : Hp} {σ : L2.St} {id : Nat} {p : Addr} (hs : HS (c.pinP P) G σ H ds pl) (hi : ds[id]? = some (some (.v (.ref p)))) {o : HO} (hP : P p = some o) : σ[id]? = some (some (.ref p)) ∧ H p = some o := by
  obtain ⟨v, e1, e2⟩ := hs.slots id _ hi
  have e2' : v = .ref p := e2
  subst e2'
  exact ⟨e1, hs.pin _ _ (pinP_at hP)⟩
theorem wsk_while_seen {id ip il : Nat} {p : Addr} {kvs0 : List (List Key × V)} (I : Nat → List (List Key × V) → DS → List D → Prop) (m0 : Nat) (F : Fresh c (one p (.dT kvs0))) (h0 : I m0 kvs0 ds pl)
    (slots : ∀ m kvs ds' pl', I m kvs ds' pl' → ds'[id]? = some (some (.v (.ref p))) ∧ ∃ a b xs, ds'[ip]? = some (some (.d (.tuple [.int a, .int b]))) ∧ ds'[il]? = some (some (.o xs)) ∧
      (∀ r, valV kvs (pk2 a b) = some r → WSK (c.pinP (one p (.dT kvs))) u ds' pl' D' G0) ∧
      (valV kvs (pk2 a b) = none → kvs.length < sizeLine ∧ WS (c.pinP (one p (.dT (putK kvs (pk2 a b) (.int xs.length))))) body ds' pl' (onlyNx fun ds2 pl2 => ∃ m', m' < m ∧ I m' (putK kvs (pk2 a b) (.int xs.length)) ds2 pl2))) :
    WSK (c.pinP (one p (.dT kvs0))) (tSeq (tWhile (tB (tDNotIn (tVar ip) (tVar id))) (tSeq (sDPut (tVar id) (tVar ip) (tCB (rLenQ K) (tCons (tVar il) tNil))) body)) u) ds pl D' G0 := fun G σ H hs e0 =>
  ⟨fun m σ' H' => ∃ G' ds' pl' kvs, Fresh c (one p (.dT kvs)) ∧ HS (c.pinP (one p (.dT kvs))) G' σ' H' ds' pl' ∧ Ex G0 G' ∧ I m kvs ds' pl', ⟨m0, G, ds, pl, kvs0, F, hs, e0, h0⟩, by
    rintro m σ' H' ⟨G', ds', pl', kvs, F1, h1, e1, g1⟩
    obtain ⟨q1, a, b, xs, q2, q3, q4, q5⟩ := slots m kvs ds' pl' g1
    obtain ⟨z1, z2⟩ := dict_at h1 q1 one_at
    obtain ⟨kq, y1, y2⟩ := key_at h1 q2
    refine ⟨_, y1, _, z1, p, valV kvs (pk2 a b), rfl, DGet.t z2 y2, !(valV kvs (pk2 a b)).isSome, rfl, ?_⟩
    cases hv : valV kvs (pk2 a b) with
    | some r => exact q4 r hv G' σ' H' h1 e1
    | none =>
      obtain ⟨l1, w1⟩ := q5 hv
      refine ⟨fun σ3 H3 => ∃ m', m' < m ∧ ∃ G' ds' pl' kvs, Fresh c (one p (.dT kvs)) ∧ HS (c.pinP (one p (.dT kvs))) G' σ3 H3 ds' pl' ∧ Ex G0 G' ∧ I m' kvs ds' pl', fun σ3 H3 ⟨m', l, q⟩ => ⟨m', l, q⟩, ?_⟩
      obtain ⟨vl, x1, pl0, vs, rfl, x2, x3, _⟩ := h1.slots il _ q3
      refine ⟨_, x1, pl0, vs, rfl, .inl (SqL.of x2), _, z1, _, y1, p, _, rfl, DPut.t z2 y2 l1, ?_⟩
      obtain ⟨F2, h2⟩ := h1.repin (o' := .dT (putK kvs (pk2 a b) (.int vs.length))) F1 one_at
      rw [one_upd] at F2 h2
      have ev : vs.length = xs.length := x3.len
      rw [ev] at F2 h2 ⊢
      refine w1 G' σ' _ h2 _ ⟨?_, ?_, ?_, ?_⟩
      · exact fun G3 σ3 H3 ds3 pl3 h3 e3 ⟨m', l, g3⟩ => ⟨m', l, G3, ds3, pl3, _, F2, h3, e1.trans e3, g3⟩
      · exact fun _ _ _ _ _ _ _ _ _ _ w => w.elim
      · exact fun _ _ _ _ _ _ _ w => w.elim
      · exact fun _ _ _ _ _ _ _ w => w.elim⟩
theorem we_dget {id ip : Nat} {p : Addr} {kvs : List (List Key × V)} {a b i : Int} (h1 : ds[id]? = some (some (.v (.ref p)))) (h2 : ds[ip]? = some (some (.d (.tuple [.int a, .int b])))) (hv : valV kvs (pk2 a b) = some (.int i)) (h : Φ (.d (.int i)) pl) :
    WE (c.pinP (one p (.dT kvs))) (tDGet (tVar id) (tVar ip)) ds pl Φ := fun G σ H hs Q q => by
  obtain ⟨z1, z2⟩ := dict_at hs h1 one_at
  obtain ⟨kq, y1, y2⟩ := key_at hs h2
  have g := DGet.t z2 y2
  rw [hv] at g
  exact ⟨_, z1, _, y1, p, _, rfl, g, q _ G H (.d (.int i)) pl hs (Ex.refl _) (R.int _) h⟩
theorem cb_sum {ns : List Int} (h : Φ (.d (.int ns.sum)) pl) : CbS c (rSum K) ds [.list (ns.map PyData.int)] pl Φ := fun G σ H vs hs f Q q => by
  obtain ⟨v, rfl, a⟩ := ra1 f
  cases a with
  | lst a b =>
    have eb := b.ints
    subst eb
    exact ⟨_, ns, rfl, SqL.of (hs.sub _ _ a), q _ G H (.d _) pl hs (Ex.refl _) (R.int _) h⟩
theorem cb_divmod {i j : Int} (hc : CDiv i j) (h : Φ (.d (.tuple [.int (i / j), .int (i % j)])) pl) : CbS c (fun xs H Q => ∃ i j, xs = [.int i, .int j] ∧ CDiv i j ∧ ∀ p, H p = none → Q (.ref p) (upd H p (.tup [.int (i / j), .int (i % j)]))) ds [.int i, .int j] pl Φ := fun G σ H vs hs f Q q => by
  obtain ⟨v, u, rfl, a, b⟩ := ra2 f
  cases a
  cases b
  refine ⟨i, j, rfl, hc, fun p hp => ?_⟩
  have n := hs.none_of hp
  exact q _ _ _ (.d (.tuple [.int (i / j), .int (i % j)])) pl (hs.newD hp) (Ex.new n.1) (show R _ (.ref p) (.tuple [.int (i / j), .int (i % j)]) from .tup upd_same (.cons (.int _) (.cons (.int _) .nil))) h
end
end PD

/-! PD23: heights one behind the other, as data -/
namespace PD
open PySem PySem.Spec PyProof.Rows L2 Evl
abbrev slD (v : Dv) : D := .tuple [.list ((sl v.1).map PyData.int), .list ((sl v.2).map PyData.int)]
def hts (v : Dv) (ms : List Int) (s : Sv) (n : Nat) : List Int := (List.range n).map fun k => (rp v ms s k).1
theorem hts_len (v : Dv) (ms : List Int) (s : Sv) (n : Nat) : (hts v ms s n).length = n := by unfold hts; rw [List.length_map, List.length_range]
theorem hts_succ (v : Dv) (ms : List Int) (s : Sv) (n : Nat) : hts v ms s (n + 1) = hts v ms s n ++ [(rp v ms s n).1] := by unfold hts; rw [List.range_succ, List.map_append]; rfl
theorem hts_at (v : Dv) (ms : List Int) (s : Sv) {n k : Nat} (h : k < n) : atI ((hts v ms s n).map PyData.int) (k : Int) = some (.int (rp v ms s k).1) := atI_nat (by
  unfold hts
  rw [List.map_map, List.getElem?_map, List.getElem?_range h]
  rfl)
theorem hts_last (v : Dv) (ms : List Int) (s : Sv) (n : Nat) : atI ((hts v ms s (n + 1)).map PyData.int) (-1) = some (.int (rp v ms s n).1) := by
  rw [hts_succ, List.map_append]
  exact atI_last _ _
theorem mod_len {c : Comb} (ok : c.Ok) (x : Int) : x % ((((sl c).map PyData.int).length : Nat) : Int) = x % c.p := by rw [List.length_map, sl_len ok]
theorem len_pos {c : Comb} (ok : c.Ok) : (0 : Int) < ((((sl c).map PyData.int).length : Nat) : Int) := by rw [List.length_map, sl_len ok]; have := ok.p1; omega
def Seen (v : Dv) (ms : List Int) (s : Sv) (k : Nat) (kvs : List (List Key × V)) : Prop := ∀ a b r, valV kvs (pk2 a b) = some r ↔ ∃ i, i < k ∧ plc v (rp v ms s i) = (a, b) ∧ r = .int (i : Int)
theorem seen_nil (v : Dv) (ms : List Int) (s : Sv) : Seen v ms s 0 [] := fun a b r => ⟨fun h => (by cases h), fun ⟨i, h, _⟩ => absurd h (Nat.not_lt_zero i)⟩
theorem seen_put {v : Dv} {ms : List Int} {s : Sv} {k : Nat} {kvs : List (List Key × V)} (h : Seen v ms s k kvs) (hn : valV kvs (pk2 (plc v (rp v ms s k)).1 (plc v (rp v ms s k)).2) = none) :
    Seen v ms s (k + 1) (putK kvs (pk2 (plc v (rp v ms s k)).1 (plc v (rp v ms s k)).2) (.int (k : Int))) := fun a b r => by
  rw [valV_put]
  by_cases e : pk2 a b = pk2 (plc v (rp v ms s k)).1 (plc v (rp v ms s k)).2
  · rw [if_pos e]
    have e1 : a = (plc v (rp v ms s k)).1 ∧ b = (plc v (rp v ms s k)).2 := by
      simp only [pk2, List.cons.injEq, Sum.inl.injEq, and_true] at e
      exact e
    obtain ⟨rfl, rfl⟩ := e1
    constructor
    · intro z
      cases z
      exact ⟨k, by omega, rfl, rfl⟩
    · rintro ⟨i, hi, e2, rfl⟩
      by_cases z : i = k
      · subst z; rfl
      · have := (h _ _ (.int (i : Int))).mpr ⟨i, by omega, e2, rfl⟩
        rw [hn] at this; cases this
  · rw [if_neg e, h a b r]
    constructor
    · rintro ⟨i, hi, e2, e3⟩; exact ⟨i, by omega, e2, e3⟩
    · rintro ⟨i, hi, e2, e3⟩
      refine ⟨i, ?_, e2, e3⟩
      by_cases z : i = k
      · subst z
        rw [e2] at e
        exact absurd rfl e
      · omega
theorem seen_inj {v : Dv} {ms : List Int} {s : Sv} {k : Nat} {kvs : List (List Key × V)} (h : Seen v ms s k kvs) (hn : valV kvs (pk2 (plc v (rp v ms s k)).1 (plc v (rp v ms s k)).2) = none) (inj : ∀ i i', i < i' → i' < k → plc v (rp v ms s i) ≠ plc v (rp v ms s i')) :
    ∀ i i', i < i' → i' < k + 1 → plc v (rp v ms s i) ≠ plc v (rp v ms s i') := fun i i' h1 h2 e => by
  by_cases z : i' = k
  · subst z
    have := (h (plc v (rp v ms s i')).1 (plc v (rp v ms s i')).2 (.int (i : Int))).mpr ⟨i, h1, e, rfl⟩
    rw [hn] at this; cases this
  · exact inj i i' h1 (by omega) e
theorem sum_abs : ∀ ms : List Int, ms.sum.natAbs ≤ absS ms
  | [] => Nat.le_refl _
  | y :: r => by
    have e : absS (y :: r) = y.natAbs + absS r := by unfold absS; rw [List.map_cons, List.sum_cons]
    have := sum_abs r
    rw [List.sum_cons, e]
    omega
@[irreducible] def BB : Nat := 2 ^ 3000
theorem BB_up : 2 * (BB + 1000 * (40 * (BB + 48))) < 2 ^ 3020 := by decide +kernel
theorem BB_two : BB < 2 ^ 3001 := by decide +kernel
theorem BB_40 : 40 * BB < 2 ^ 3020 := by decide +kernel
theorem BB_ge : 10 ^ 150 ≤ BB := by decide +kernel
theorem key1 {a b c L X : Nat} (h1 : a ≤ b + c) (h2 : c ≤ X) (h3 : b < L) : a ≤ L + X := by omega
theorem key2 {x y : Int} {L X : Nat} (h1 : x.natAbs ≤ L + X) (h2 : y.natAbs ≤ L + X) : (x - y).natAbs ≤ 2 * (L + X) := by omega
theorem key3 {q t L : Nat} (h1 : q ≤ t) (h2 : t < L) : ((q : Nat) : Int).natAbs ≤ L := by omega
theorem key4 {x : Int} {a b c : Nat} (h1 : x.natAbs ≤ a) (h2 : a ≤ b) (h3 : b ≤ c) : x.natAbs ≤ c := by omega
theorem rp_BB {v : Dv} (ok : v.Ok) {ms : List Int} {s : Sv} (ml : ms.length ≤ 40) (mb : ∀ m ∈ ms, m.natAbs < BB) (sb : s.1.natAbs < BB) (i : Nat) (hi : i ≤ 1000) : (rp v ms s i).1.natAbs ≤ BB + 1000 * (40 * (BB + 48)) :=
  key1 (rp_bound ok (M := BB) (fun m hm => Nat.le_of_lt (mb m hm)) s i).1 (Nat.mul_le_mul hi (Nat.mul_le_mul_right (BB + 48) ml)) sb
theorem far_mul {v : Dv} (ok : v.Ok) {ms : List Int} {s : Sv} (ml : ms.length ≤ 40) (mb : ∀ m ∈ ms, m.natAbs < BB) (sb : s.1.natAbs < BB) {n j t : Nat} (hn : n ≤ 576) (hj : j ≤ 576) (tb : t < BB) : CMulW (((t - j) / (n - j) : Nat) : Int) ((rp v ms s n).1 - (rp v ms s j).1) := by
  have g1 := rp_BB ok ml mb sb n (Nat.le_trans hn (by decide))
  have g2 := rp_BB ok ml mb sb j (Nat.le_trans hj (by decide))
  have q0 : (t - j) / (n - j) ≤ t := Nat.le_trans (Nat.div_le_self _ _) (Nat.sub_le _ _)
  exact wide_mul (a := 3001) (b := 3020) (Nat.lt_of_le_of_lt (key3 q0 tb) BB_two) (Nat.lt_of_le_of_lt (key2 g1 g2) BB_up) (by decide) (by decide) (by decide)
theorem sum_mul {ms : List Int} (ml : ms.length ≤ 40) (mb : ∀ m ∈ ms, m.natAbs < BB) {t : Nat} (tb : t < BB) : CMulW (t : Int) ms.sum :=
  wide_mul (a := 3001) (b := 3020) (Nat.lt_of_le_of_lt (key3 (Nat.le_refl t) tb) BB_two) (Nat.lt_of_le_of_lt (key4 (sum_abs ms) (absS_le (B := BB) fun m hm => Nat.le_of_lt (mb m hm)) (Nat.mul_le_mul_right BB ml)) BB_40) (by decide) (by decide) (by decide)
theorem putK_len' {κ : Type} [DecidableEq κ] (kvs : List (κ × V)) (k : κ) (x : V) (h : valV kvs k = none) : (putK kvs k x).length = kvs.length + 1 := by
  rw [putK_new x h, List.length_append]
  rfl
end PD

/-! PD24: comprehensions that map; mirrors of trails, of joined moves, of cycles -/
namespace PD
open PySem PySem.Spec PyProof.Rows L2 Evl
section
variable {c : Cn} {K : PySem.W.Frag} {ds : DS} {pl : List D} {Φ : W → List D → Prop} {te tl : TE}
theorem we_lcM {A : Type} {j : Nat} (as : List A) (enc f : A → D) (hl : as.length < sizeLine) (hj : ∀ (xs : List D), ds[j]? ≠ some (some (W.o xs)))
    (h : WE c tl ds pl (isD fun d p1 => d = .list (as.map enc) ∧ Φ (.d (.list (as.map f))) p1))
    (step : ∀ p1 a, a ∈ as → ∀ pin, WE { c with pin := pin } te ((wipeD ds [j]).set j (some (.d (enc a)))) p1 (isD fun y p2 => y = f a ∧ p2 = p1)) : WE c (tLc (iList K tl) (gName j) tYes te [j]) ds pl Φ := by
  refine we_lcL (fun i acc p => acc = (as.take i).map f ∧ Φ (.d (.list (as.map f))) p) (as.map enc) hj ?_ ?_ ?_
  · refine h.mono fun w p1 q => ?_
    cases w with
    | d x => exact ⟨q.1, rfl, q.2⟩
    | v x => exact q
    | o x => exact q
  · rintro i x acc p hx ⟨rfl, q⟩ pin
    rw [List.getElem?_map] at hx
    cases ha : as[i]? with
    | none => rw [ha] at hx; cases hx
    | some a =>
      rw [ha] at hx
      cases hx
      refine wt_yes ?_
      rw [if_pos rfl]
      refine (step p a (List.mem_of_getElem? ha) pin).mono fun w p2 q2 => ?_
      have hi := (List.getElem?_eq_some_iff.mp ha).1
      cases w with
      | d x =>
        obtain ⟨rfl, rfl⟩ := q2
        refine ⟨?_, ?_, q⟩
        · rw [List.length_map, List.length_take]; omega
        · rw [List.take_add_one, ha, List.map_append]; rfl
      | v x => exact q2
      | o x => exact q2
  · rintro acc p ⟨rfl, q⟩
    rw [List.length_map, List.take_length]
    exact q
end
/-! ### mirrors -/
end PD

/-! PD25: parted moves, moves joined twice, moves one time behind the other (mathematics) -/
namespace PD
open PySem PySem.Spec PyProof.Rows L2 Evl
def repM (ms : List Int) (k : Nat) : List Int := (List.replicate k ms).flatten
theorem up_bounds {v : Dv} (ok : v.Ok) (s : Sv) {m : Int} (h : 0 < m) : s.1 ≤ (mv v s m).1 ∧ (mv v s m).1 ≤ s.1 + m := by
  rw [mv_up' h]
  have := slk_nn ok.2 (lf s)
  constructor
  · show s.1 ≤ s.1 + m - min m (slk v.2 (lf s)); omega
  · show s.1 + m - min m (slk v.2 (lf s)) ≤ s.1 + m; omega
theorem down_bounds {v : Dv} (ok : v.Ok) (s : Sv) {m : Int} (h : ¬ 0 < m) : (mv v s m).1 ≤ s.1 ∧ s.1 + m ≤ (mv v s m).1 ∧ flo v.1 s.1 ≤ (mv v s m).1 := by
  rw [mv_down h]
  have := flo_le ok.1 s.1
  refine ⟨?_, ?_, ?_⟩
  · show max (s.1 + m) (flo v.1 s.1) ≤ s.1; omega
  · show s.1 + m ≤ max (s.1 + m) (flo v.1 s.1); omega
  · show flo v.1 s.1 ≤ max (s.1 + m) (flo v.1 s.1); omega
section
variable {c : Cn} {K : PySem.W.Frag} {ds : DS} {pl : List D} {Φ : W → List D → Prop} {E : EE} {t : TS} {tr : TA}
theorem ws_forR1E {j : Nat} (Pn : Nat → Prop) (I : Nat → DS → List D → Prop) (h : WA c tr ds pl fun xs p1 => ∃ n : Nat, xs = [.int (n : Int)] ∧ n < 100000 ∧ Pn n ∧ I 0 ds p1)
    (hs : ∀ n, Pn n → ∀ (i : Nat) ds' pl', i < n → I i ds' pl' → WS c t (ds'.set j (some (.d (.int i)))) pl' { nx := I (i + 1), ct := I (i + 1), bk := E.nx, rt := E.rt }) (hd : ∀ n, Pn n → ∀ ds' pl', I n ds' pl' → E.nx ds' pl') :
    WS c (tFor (iRng1 tr) (gName j) t) ds pl E := fun G σ H h0 D' f => h G σ H h0 _ fun vs G1 H1 xs p1 h1 e1 f1 ⟨n, e, b1, b2, g1⟩ => by
  subst e
  cases f1 with
  | cons r1 b =>
    cases b
    cases r1
    refine ⟨(n : Int), rfl, by omega, by omega, for_rng I h1 (f.up e1) g1 (fun i ds' pl' hi g => ?_) fun ds' pl' g => hd n b2 ds' pl' (by rw [Int.toNat_natCast] at g; exact g)⟩
    rw [Int.zero_add]
    exact hs n b2 i ds' pl' (by rw [Int.toNat_natCast] at hi; exact hi) g
end
section
variable {c : Cn} {K : PySem.W.Frag} {ds : DS} {pl : List D} {Φ : W → List D → Prop} {E : EE} {t u : TS} {tr : TA} {ta tb : TE} {tt : TT} {Ek : XK}
end
end PD

/-! PD26: three names at once; an owned list lent to a call whose answer is dropped -/
namespace PD
open PySem PySem.Spec PyProof.Rows L2 Evl
section
variable {c : Cn} {K : PySem.W.Frag} {ds : DS} {pl : List D} {t u : TS} {D' : Ends} {G0 : Hp} {E : EE} {Φ : W → List D → Prop} {te : TE} {tr : TA}
end
end PD

/-! PD27: a and b that meet; a last move that brings the hand back; written devices -/
namespace PD
open PySem PySem.Spec PyProof.Rows L2 Evl
section
variable {c : Cn} {K : PySem.W.Frag} {ds : DS} {pl : List D} {Φ : W → List D → Prop} {ta tb : TE} {tr : TA} {Ek : XK}
end
abbrev c3 : Comb := ⟨3, [0]⟩
abbrev c5 : Comb := ⟨5, [0]⟩
abbrev c10 : Comb := ⟨10, [0]⟩
abbrev c103 : Comb := ⟨10, [0, 3]⟩
end PD

/-! PD28: comprehensions over enumerate, over pairs; in and index of data of any depth; lists begun with items -/
namespace PD
open PySem PySem.Spec PyProof.Rows L2 Evl
theorem hu65 {A : Around} {k : Nat} (hr : Room k A) : A.units + 65 < cLine := by have := hr.un; omega
section
variable {c : Cn} {K : PySem.W.Frag} {ds : DS} {pl : List D} {Φ : W → List D → Prop} {te tl : TE} {tr : TA} {tt : TT} {σ : L2.St} {E : EE} {t : TS}
theorem we_lcE {j1 j2 : Nat} (J : Nat → List D → List D → Prop) (xs : List D) (hj : ∀ (xs : List D), ds[j1]? ≠ some (some (W.o xs)) ∧ ds[j2]? ≠ some (some (W.o xs)))
    (h : WA c tr ds pl fun zs p1 => zs = [.list xs] ∧ J 0 [] p1)
    (user : ∀ (i : Nat) x acc pl', xs[i]? = some x → J i acc pl' → ∀ pin, WT { c with pin := pin } tt (((wipeD ds [j1, j2]).set j1 (some (.d (.int (i : Int))))).set j2 (some (.d x))) pl' fun b p2 =>
      if b = true then WE { c with pin := pin } te (((wipeD ds [j1, j2]).set j1 (some (.d (.int (i : Int))))).set j2 (some (.d x))) p2 (isD fun y p3 => acc.length < sizeLine ∧ J (i + 1) (acc ++ [y]) p3) else J (i + 1) acc p2)
    (hq : ∀ acc pl', J xs.length acc pl' → Φ (.d (.list acc)) pl') : WE c (tLc (iEnum K tr) (gTup K 2 (gCons (gName j1) (gCons (gName j2) gNil))) tt te [j1, j2]) ds pl Φ := fun G σ H h0 Q q => h G σ H h0 _ fun vs G1 H1 zs p1 h1 e1 f1 ⟨ez, g1⟩ => by
  subst ez
  obtain ⟨v, rfl, r1⟩ := ra1 f1
  cases r1 with
  | @lst a us1 _ a1 b1 =>
  refine ⟨a, us1, rfl, SqL.of (h1.sub _ _ a1), fun Dl hD => ?_⟩
  have f := df_new h1 hD
  refine ⟨fun i m H' => m = us1.length - i ∧ i ≤ us1.length ∧ PvC c σ ds G1 Dl J i H', ⟨us1.length, by simp, Nat.zero_le _, pv_start J h1 hD g1⟩, ?_⟩
  rintro i m H' ⟨rfl, hi, p⟩
  obtain ⟨G', pl', acc, us, h2, e2, hD2, ra, gD, hJ⟩ := id p
  have sq1 : SqL K H' a us1 := SqL.of (h2.sub _ _ (e2 _ _ a1))
  by_cases hlt : i < us1.length
  · refine .inr ⟨⟨us1, us1[i], sq1, by simp [hlt]⟩, PvC c σ ds G1 Dl J (i + 1), fun H3 q => ⟨us1.length - (i + 1), by omega, rfl, hlt, q⟩, ?_⟩
    rintro x H3 ⟨T, x2, rfl, hT, rfl, y1⟩
    obtain ⟨d2, hd2, hr2⟩ := b1.get' (y1 us1 sq1)
    have n := h2.none_of hT
    have e3 : Ex G' (upd G' T (.tup [.int (i : Nat), x2])) := Ex.new n.1
    refine ⟨T, _, rfl, SqT.of upd_same, rfl, _, _, rfl, _, _, rfl, rfl, wipe_set2 σ j1 j2 _ x2, ?_⟩
    have hw := (((h2.newD (o := .tup [.int (i : Nat), x2]) hT).wipe [j1, j2]).set (i := j1) (w := .d (.int (i : Int))) (R.int _) fun xs z => by cases z).set (i := j2) (w := .d d2) (R.up hr2 (e2.trans e3)) fun xs z => by cases z
    obtain ⟨f2, same⟩ := two_slots (v1 := .int (i : Int)) (v2 := x2) (d1 := .int (i : Int)) (d2 := d2) f hj
    refine lc_turnG J f f2 same h2 hw e2 e3 (by rw [upd_ne (ne_of_none hD2 hT)]; exact hD2) ?_ ra (fun pin => user i d2 acc pl' hd2 hJ pin) hJ
    rw [upd_ne (ne_of_none hD2 hT)]
    exact gD
  · have ei : i = us1.length := by omega
    subst ei
    rw [b1.len] at p
    exact .inl ⟨⟨us1, sq1, Nat.le_refl _⟩, pv_end f p hq fun v G' H' w pl' h2 e2 f2 g2 => q v G' H' w pl' h2 (e1.trans e2) f2 g2⟩
theorem we_indexD {i : Nat} {xs : List D} (hi : ds[i]? = some (some (.d (.list xs)))) (s1 : SeqAt.shaped (.list xs) = true) (h : WE c te ds pl (isD fun x p1 => SeqAt.shaped x = true ∧ ∃ (j : Nat) (z : D), xs[j]? = some z ∧ PyData.eqv z x = true ∧ (∀ (m : Nat) (z' : D), m < j → xs[m]? = some z' → PyData.eqv z' x = false) ∧ Φ (.d (.int (j : Int))) p1)) :
    WE c (tBM K "list" (rIndexD K) (tVar i) (tCons te tNil)) ds pl Φ := fun G σ H hs Q q => by
  obtain ⟨v, e1, e2⟩ := hs.slots i _ hi
  have e2' : R G v (.list xs) := e2
  obtain ⟨p, us, rfl, b1, b2⟩ := RT.list (.inl e2') hs.sub
  refine ⟨_, e1, .inl ⟨rfl, _, SqL.of b1⟩, ?_⟩
  refine h G σ H hs _ fun u G1 H1 w p1 h1 e3 f1 g1 => ?_
  match w, f1, g1 with
  | .d x, f1, ⟨s2, j, z, z1, z2, z3, g2⟩ =>
    exact ⟨p, u, x, xs, j, z, rfl, rfl, R.dp _ _ (R.up e2' (e3.trans h1.sub)), R.dp _ _ (R.up f1 h1.sub), s1, s2, z1, z2, z3, q _ G1 H1 (.d _) p1 h1 e3 (R.int _) g2⟩
end
end PD

/-! PD29: starts that come again, in a list of starts (mathematics) -/
namespace PD
open PySem PySem.Spec PyProof.Rows L2 Evl
abbrev ptD (a : Int × Int) : D := .tuple [.int a.1, .int a.2]
section
variable (v : Dv) (ms : List Int) (s : Sv)
def sts (n : Nat) : List D := (List.range n).map fun i => ptD (plc v (rp v ms s i))
def seenB (i : Nat) : Bool := (sts v ms s i).any fun z => PyData.eqv z (ptD (plc v (rp v ms s i)))
variable {v ms s}
end
def rows (v : Dv) (ms : List Int) (s : Sv) (n : Nat) : List D := (List.range n).map fun i => Sv.d (rp v ms s i)
end PD

/-! PD30: cycles of written devices -/
namespace PD
open PySem PySem.Spec PyProof.Rows L2 Evl
end PD

/-! PD31: ranges with two ends, zip in a for, index, sorted; bars in their order (mathematics) -/
namespace PD
open PySem PySem.Spec PyProof.Rows L2 Evl
section
variable {c : Cn} {K : PySem.W.Frag} {ds : DS} {pl : List D} {Φ : W → List D → Prop} {te tl tb : TE} {tr : TA} {tt : TT} {σ : L2.St} {E : EE} {t : TS}
theorem we_lcR2 {j : Nat} (J : Nat → List D → List D → Prop) (lo hi : Int) (hj : ∀ (xs : List D), ds[j]? ≠ some (some (W.o xs))) (h : WA c tr ds pl fun ys p1 => ys = [.int lo, .int hi] ∧ (-(2 ^ 62) ≤ lo ∧ lo < 2 ^ 62 ∧ -(2 ^ 62) ≤ hi ∧ hi < 2 ^ 62) ∧ J 0 [] p1)
    (user : ∀ (i : Nat) acc pl', i < (hi - lo).toNat → J i acc pl' → ∀ pin, WT { c with pin := pin } tt ((wipeD ds [j]).set j (some (.d (.int (lo + i))))) pl' fun b p2 => if b = true then WE { c with pin := pin } te ((wipeD ds [j]).set j (some (.d (.int (lo + i))))) p2
      (isD fun y p3 => acc.length < sizeLine ∧ J (i + 1) (acc ++ [y]) p3) else J (i + 1) acc p2)
    (hq : ∀ acc pl', J (hi - lo).toNat acc pl' → Φ (.d (.list acc)) pl') : WE c (tLc (iRng2 tr) (gName j) tt te [j]) ds pl Φ := fun G σ H h0 Q q => h G σ H h0 _ fun vs G1 H1 xs p1 h1 e1 f1 ⟨e, b1, g1⟩ => by
  subst e
  cases f1 with
  | cons r1 b =>
    cases b with
    | cons r2 b =>
      cases b
      cases r1
      cases r2
      refine ⟨lo, hi, rfl, b1, fun Dl hD => ?_⟩
      have f := df_new h1 hD
      refine lc_range (lo := lo) (n := (hi - lo).toNat) (PvC c σ ds G1 Dl J) (pv_start J h1 hD g1) ?_ ?_
      · intro i H' hi p
        exact ⟨wipe_set σ j _, lc_turnD J f hj p (fun G' e => R.int _) fun acc pl' hJ pin => user i acc pl' hi hJ pin⟩
      · intro H' p
        exact pv_end f p hq fun v G' H' w pl' h2 e2 f2 g2 => q v G' H' w pl' h2 (e1.trans e2) f2 g2
theorem cb_sortedI {ns : List Int} (h : ∀ ns' : List Int, ns'.Perm ns → ns'.Pairwise (· ≤ ·) → Φ (.d (.list (ns'.map PyData.int))) pl) : CbS c (rSortedI K) ds [.list (ns.map PyData.int)] pl Φ := fun G σ H vs hs f Q q => by
  obtain ⟨v, rfl, a⟩ := ra1 f
  cases a with
  | lst a b =>
    have eb := b.ints
    subst eb
    refine ⟨_, ns, rfl, SqL.of (hs.sub _ _ a), fun ns' p pm ps hp => ?_⟩
    have n := hs.none_of hp
    exact q _ _ _ (.d _) pl (hs.newD hp) (Ex.new n.1) (show R _ (.ref p) (.list (ns'.map PyData.int)) from .lst upd_same (RA.of_ints _)) (h ns' pm ps)
end
theorem slk_lt {c : Comb} (ok : c.Ok) (n : Int) : slk c n < c.p := by
  obtain ⟨a1, a2, a3⟩ := flo_spec ok n
  by_cases h : flo c n + c.p ≤ n
  · have h2 := a3 (flo c n + c.p) (by have := ok.p1; omega) h
    have e : caught c (flo c n + c.p) = caught c (flo c n) := by unfold caught; rw [Int.add_emod_right]
    rw [e, a2] at h2
    cases h2
  · unfold slk; omega
theorem mv_mono {v : Dv} (ok : v.Ok) {s t : Sv} (h1 : s.1 ≤ t.1) (h2 : s.2 = t.2) (m : Int) : (mv v s m).1 ≤ (mv v t m).1 := by
  by_cases z : 0 < m
  · rw [mv_up z, mv_up z]
    have := flo_mono ok.2 (n := s.1 - s.2) (m := t.1 - t.2) (by omega)
    show s.2 + m + max (s.1 - s.2 - m) (flo v.2 (s.1 - s.2)) ≤ t.2 + m + max (t.1 - t.2 - m) (flo v.2 (t.1 - t.2))
    omega
  · rw [mv_down z, mv_down z]
    have := flo_mono ok.1 h1
    show max (s.1 + m) (flo v.1 s.1) ≤ max (t.1 + m) (flo v.1 t.1)
    omega
theorem mvs_mono {v : Dv} (ok : v.Ok) : ∀ (ms : List Int) {s t : Sv}, s.1 ≤ t.1 → s.2 = t.2 → (mvs v s ms).1 ≤ (mvs v t ms).1
  | [], s, t, h, _ => h
  | m :: r, s, t, h, h2 => mvs_mono ok r (mv_mono ok h h2 m) (by rw [mv_hand, mv_hand, h2])
theorem rp_mono {v : Dv} (ok : v.Ok) (ms : List Int) {s t : Sv} (h : s.1 ≤ t.1) (h2 : s.2 = t.2) : ∀ k : Nat, (rp v ms s k).1 ≤ (rp v ms t k).1
  | 0 => h
  | k + 1 => mvs_mono ok ms (rp_mono ok ms h h2 k) (by rw [rp_hand, rp_hand, h2])
structure Com (v : Dv) (L : Int) : Prop where
  pos : 0 < L
  d1 : L % v.1.p = 0
  d2 : L % v.2.p = 0
  le : L ≤ 576
theorem Com.plc {v : Dv} {L : Int} (c : Com v L) (b palm k : Int) : PD.plc v (b, palm) = PD.plc v (b + L * k, palm) := by
  obtain ⟨x, hx⟩ : ∃ x, L = v.1.p * x := ⟨L / v.1.p, by have := Int.mul_ediv_add_emod L v.1.p; rw [c.d1] at this; omega⟩
  obtain ⟨y, hy⟩ : ∃ y, L = v.2.p * y := ⟨L / v.2.p, by have := Int.mul_ediv_add_emod L v.2.p; rw [c.d2] at this; omega⟩
  unfold PD.plc
  show (b % v.1.p, (b - palm) % v.2.p) = ((b + L * k) % v.1.p, (b + L * k - palm) % v.2.p)
  have e1 : (b + L * k) % v.1.p = b % v.1.p := by rw [hx, Int.mul_assoc, Int.add_mul_emod_self_left]
  have e2 : (b + L * k - palm) % v.2.p = (b - palm) % v.2.p := by
    rw [show b + L * k - palm = (b - palm) + L * k by omega, hy, Int.mul_assoc, Int.add_mul_emod_self_left]
  rw [e1, e2]
theorem plc_held {v : Dv} {s t : Sv} (h : PD.plc v s = PD.plc v t) : held v s = held v t := by
  unfold held caught
  have e1 : s.1 % v.1.p = t.1 % v.1.p := congrArg Prod.fst h
  have e2 : (s.1 - s.2) % v.2.p = (t.1 - t.2) % v.2.p := congrArg Prod.snd h
  rw [e1, e2]
structure Row (L : Int) (f : Int → Int) : Prop where
  mono : ∀ a b, a ≤ b → f a ≤ f b
  per : ∀ a k, f (a + L * k) = f a + L * k
theorem row_rp {v : Dv} (ok : v.Ok) {L : Int} (c : Com v L) (palm : Int) (ms : List Int) (t : Nat) : Row L fun b => (rp v ms (b, palm) t).1 :=
  ⟨fun a b h => rp_mono ok ms (s := (a, palm)) (t := (b, palm)) h rfl t, fun a k => by
    have e := rp_shift ok ms (c.plc a palm k) t
    have e1 := congrArg Prod.fst e
    show (rp v ms (a + L * k, palm) t).1 = _
    rw [e1]
    show _ + (a + L * k - a) = _
    omega⟩
theorem floor_mv {v : Dv} (ok : v.Ok) (s : Sv) (m : Int) : flo v.1 s.1 ≤ flo v.1 (mv v s m).1 := by
  obtain ⟨a1, a2, a3⟩ := flo_spec ok.1 s.1
  have h : flo v.1 s.1 ≤ (mv v s m).1 := by
    by_cases z : 0 < m
    · have := (up_bounds ok s z).1; omega
    · exact (down_bounds ok s z).2.2
  obtain ⟨b1, b2, b3⟩ := flo_spec ok.1 (mv v s m).1
  by_cases y : flo v.1 s.1 ≤ flo v.1 (mv v s m).1
  · exact y
  · have := b3 (flo v.1 s.1) (by omega) h
    rw [a2] at this; cases this
theorem eqv_int (a b : Int) : PyData.eqv (.int a) (.int b) = (a == b) := rfl
theorem first_at : ∀ {l : List Int} {x : Int}, x ∈ l → ∃ j : Nat, l[j]? = some x ∧ ∀ (m : Nat) (z : Int), m < j → l[m]? = some z → z ≠ x
  | y :: r, x, h => by
    by_cases e : y = x
    · exact ⟨0, by rw [e]; rfl, fun m z hm => absurd hm (Nat.not_lt_zero _)⟩
    · rcases List.mem_cons.mp h with rfl | h
      · exact absurd rfl e
      · obtain ⟨j, h1, h2⟩ := first_at h
        refine ⟨j + 1, by rw [List.getElem?_cons_succ]; exact h1, fun m z hm hz => ?_⟩
        cases m with
        | zero => cases hz; exact e
        | succ m => exact h2 m z (by omega) (by rw [List.getElem?_cons_succ] at hz; exact hz)
theorem _root_.Int.le_of_emod_eq_zero' {L p : Int} (h0 : 0 < L) (hp : 0 < p) (h : L % p = 0) : p ≤ L := Int.le_of_dvd h0 (Int.dvd_of_emod_eq_zero h)
end PD

/-! PD32: is None, min and max of a list; first times (mathematics) -/
namespace PD
open PySem PySem.Spec PyProof.Rows L2 Evl
def nonB : D → Bool
  | .none => true
  | _ => false
section
variable {c : Cn} {K : PySem.W.Frag} {ds : DS} {pl : List D} {Φ : W → List D → Prop}
theorem os_isN {d : D} {p2 : List D} (h : Φ (.d (.bool (nonB d))) p2) : OpS c (fun x y H Q => y = .non ∧ Q (.bl (decide (x = .non))) H) ds d .none p2 Φ := fun G σ H v u hs hv hu Q q => by
  have e : u = .non := by
    rcases hu with hu | ⟨p, vs, xs, rfl, e, _⟩
    · cases hu; rfl
    · cases e
  have e2 : decide (v = .non) = nonB d := by
    rcases hv with hv | ⟨p, vs, xs, rfl, rfl, _⟩
    · cases hv <;> rfl
    · rfl
  refine ⟨e, ?_⟩
  rw [e2]
  exact q _ G H (.d _) p2 hs (Ex.refl _) (R.bl _) h
theorem cb_minI {ns : List Int} (h0 : ns ≠ []) (h : ∀ m ∈ ns, (∀ y ∈ ns, m ≤ y) → Φ (.d (.int m)) pl) : CbS c (rMin K) ds [.list (ns.map PyData.int)] pl Φ := fun G σ H vs hs f Q q => by
  obtain ⟨v, rfl, a⟩ := ra1 f
  cases a with
  | lst a b =>
    have eb := b.ints
    subst eb
    exact ⟨_, ns, rfl, SqL.of (hs.sub _ _ a), List.length_pos_iff.mpr h0, fun m m1 m2 => q _ G H (.d _) pl hs (Ex.refl _) (R.int _) (h m m1 m2)⟩
theorem cb_maxI {ns : List Int} (h0 : ns ≠ []) (h : ∀ m ∈ ns, (∀ y ∈ ns, y ≤ m) → Φ (.d (.int m)) pl) : CbS c (rMax K) ds [.list (ns.map PyData.int)] pl Φ := fun G σ H vs hs f Q q => by
  obtain ⟨v, rfl, a⟩ := ra1 f
  cases a with
  | lst a b =>
    have eb := b.ints
    subst eb
    exact ⟨_, ns, rfl, SqL.of (hs.sub _ _ a), List.length_pos_iff.mpr h0, fun m m1 m2 => q _ G H (.d _) pl hs (Ex.refl _) (R.int _) (h m m1 m2)⟩
end
theorem cut_mid (xs : List D) (j : Nat) (h : j < xs.length) : cutD xs (some (j : Int)) (some (-1)) = (xs.drop j).take (xs.length - 1 - j) := by
  unfold cutD
  rw [HT.sIx_nat, Nat.min_eq_left (by omega)]
  have e : HT.sIx xs.length xs.length (some (-1)) = xs.length - 1 := by
    unfold HT.sIx
    dsimp only
    rw [if_pos (by decide)]
    omega
  rw [e]
section
variable (v : Dv) (ms : List Int) (s : Sv)
theorem hts_cut {n j : Nat} (h : j < n) : cutD ((hts v ms s (n + 1)).map PyData.int) (some (j : Int)) (some (-1)) = (List.range (n - j)).map fun i => PyData.int (rp v ms s (j + i)).1 := by
  rw [cut_mid _ _ (by rw [List.length_map, hts_len]; omega)]
  apply List.ext_getElem?
  intro i
  rw [List.length_map, hts_len]
  by_cases hi : i < n - j
  · rw [List.getElem?_take_of_lt (by omega), List.getElem?_drop, List.getElem?_map, List.getElem?_map, List.getElem?_range hi]
    unfold hts
    rw [List.getElem?_map, List.getElem?_range (by omega)]
    rfl
  · rw [List.getElem?_eq_none (by rw [List.length_take, List.length_drop, List.length_map, hts_len]; omega), List.getElem?_eq_none (by rw [List.length_map, List.length_range]; omega)]
def Fst (h : Int) : Option Nat → Prop
  | some k => h ≤ (rp v ms s k).1 ∧ ∀ i, i < k → (rp v ms s i).1 < h
  | none => ∀ i, (rp v ms s i).1 < h
def oD : Option Nat → D
  | some k => .int (k : Int)
  | none => .none
variable {v ms s}
theorem Fst.uniq {h : Int} : ∀ {a b : Option Nat}, Fst v ms s h a → Fst v ms s h b → a = b
  | none, none, _, _ => rfl
  | some k, none, x, y => absurd (y k) (Int.not_lt.mpr x.1)
  | none, some k, x, y => absurd (x k) (Int.not_lt.mpr y.1)
  | some k, some l, x, y => by
    rcases Nat.lt_trichotomy k l with z | z | z
    · exact absurd (y.2 k z) (Int.not_lt.mpr x.1)
    · rw [z]
    · exact absurd (x.2 l z) (Int.not_lt.mpr y.1)
theorem floor_mvs (ok : v.Ok) : ∀ (ms : List Int) (s : Sv), flo v.1 s.1 ≤ flo v.1 (mvs v s ms).1
  | [], s => Int.le_refl _
  | m :: r, s => Int.le_trans (floor_mv ok s m) (floor_mvs ok r (mv v s m))
theorem floor_fl (ok : v.Ok) (ms : List Int) (s : Sv) : ∀ k : Nat, flo v.1 s.1 ≤ flo v.1 (rp v ms s k).1
  | 0 => Int.le_refl _
  | k + 1 => Int.le_trans (floor_fl ok ms s k) (floor_mvs ok ms (rp v ms s k))
theorem floor_rp (ok : v.Ok) (ms : List Int) (s : Sv) : ∀ k : Nat, flo v.1 s.1 ≤ (rp v ms s k).1 := fun k => by
  have a := floor_fl ok ms s k
  have b := flo_le ok.1 (rp v ms s k).1
  omega
theorem Cyc.rise {n j : Nat} (ok : v.Ok) (cy : Cyc v ms s n j) : (rp v ms s j).1 ≤ (rp v ms s n).1 := by
  apply Int.not_lt.mp
  intro z
  have q := cy.many ok 0 ((rp v ms s j).1 - flo v.1 s.1 + 1).toNat
  have f := floor_rp ok ms s (j + 0 + (n - j) * ((rp v ms s j).1 - flo v.1 s.1 + 1).toNat)
  have f2 := floor_rp ok ms s j
  rw [q] at f
  have e : (((rp v ms s j).1 - flo v.1 s.1 + 1).toNat : Int) = (rp v ms s j).1 - flo v.1 s.1 + 1 := Int.toNat_of_nonneg (by omega)
  rw [e] at f
  have g : ((rp v ms s j).1 - flo v.1 s.1 + 1) * ((rp v ms s n).1 - (rp v ms s j).1) ≤ ((rp v ms s j).1 - flo v.1 s.1 + 1) * (-1) := Int.mul_le_mul_of_nonneg_left (by omega) (by omega)
  simp only [Nat.add_zero] at f
  omega
theorem Cyc.part {n j : Nat} (ok : v.Ok) (cy : Cyc v ms s n j) (t : Nat) (h : j ≤ t) : ∃ i q : Nat, i < n - j ∧ t = j + i + (n - j) * q ∧ (rp v ms s t).1 = (rp v ms s (j + i)).1 + (q : Int) * ((rp v ms s n).1 - (rp v ms s j).1) := by
  have lt := cy.lt
  refine ⟨(t - j) % (n - j), (t - j) / (n - j), Nat.mod_lt _ (by omega), ?_, (cy.far ok h).symm⟩
  have := Nat.mod_add_div (t - j) (n - j)
  omega
theorem Fst.never {n j : Nat} (ok : v.Ok) (cy : Cyc v ms s n j) {h : Int} (lo : ∀ i, i < n + 1 → (rp v ms s i).1 < h) (r0 : (rp v ms s n).1 - (rp v ms s j).1 = 0) : Fst v ms s h none := fun t => by
  have lt := cy.lt
  by_cases hj : t < n + 1
  · exact lo t hj
  · obtain ⟨i, q, hi, e, e2⟩ := cy.part ok t (by omega)
    rw [e2, r0, Int.mul_zero, Int.add_zero]
    exact lo _ (by omega)
def need (x h r : Int) : Int := -((x - h) / r)
theorem need_pos {x h r : Int} (hr : 0 < r) (hx : x < h) : 0 < need x h r := by
  unfold need
  have := Int.ediv_lt_of_lt_mul hr (show x - h < 0 * r by omega)
  omega
theorem need_le {x h r : Int} (hr : 0 < r) (q : Int) : need x h r ≤ q ↔ h ≤ x + q * r := by
  unfold need
  have e : (-q ≤ (x - h) / r) ↔ -q * r ≤ x - h := Int.le_ediv_iff_mul_le hr
  have e2 : -q * r = -(q * r) := Int.neg_mul _ _
  constructor
  · intro z
    have := e.mp (by omega)
    omega
  · intro z
    have := e.mpr (by omega)
    omega
theorem Fst.least {n j : Nat} (ok : v.Ok) (cy : Cyc v ms s n j) {h : Int} (lo : ∀ i, i < n + 1 → (rp v ms s i).1 < h) (r0 : 0 < (rp v ms s n).1 - (rp v ms s j).1)
    {m : Int} (m1 : m ∈ (List.range (n - j)).map fun (i : Nat) => (j : Int) + (i : Int) + ((n : Int) - (j : Int)) * need (rp v ms s (j + i)).1 h ((rp v ms s n).1 - (rp v ms s j).1))
    (m2 : ∀ y ∈ (List.range (n - j)).map fun (i : Nat) => (j : Int) + (i : Int) + ((n : Int) - (j : Int)) * need (rp v ms s (j + i)).1 h ((rp v ms s n).1 - (rp v ms s j).1), m ≤ y) : ∃ k : Nat, m = (k : Int) ∧ Fst v ms s h (some k) := by
  have lt := cy.lt
  obtain ⟨i, hi, rfl⟩ := List.mem_map.mp m1
  have hi' := List.mem_range.mp hi
  generalize hr : (rp v ms s n).1 - (rp v ms s j).1 = r at *
  have np := need_pos r0 (lo (j + i) (by omega))
  obtain ⟨q, hq⟩ : ∃ q : Nat, need (rp v ms s (j + i)).1 h r = (q : Int) := ⟨(need (rp v ms s (j + i)).1 h r).toNat, by omega⟩
  have eL : (n : Int) - (j : Int) = ((n - j : Nat) : Int) := by omega
  have mm := cy.many ok i q
  rw [hr] at mm
  refine ⟨j + i + (n - j) * q, ?_, ?_, fun t ht => ?_⟩
  · rw [hq, eL, Int.natCast_add, Int.natCast_add, Int.natCast_mul]
  · rw [mm]
    exact (need_le r0 _).mp (by omega)
  · apply Int.not_le.mp
    intro z
    by_cases hn : t < n + 1
    · have := lo t hn
      omega
    · obtain ⟨i2, q2, hi2, e, e2⟩ := cy.part ok t (by omega)
      rw [e2, hr] at z
      have nl := (need_le r0 _).mpr z
      have := m2 _ (List.mem_map.mpr ⟨i2, List.mem_range.mpr hi2, rfl⟩)
      rw [hq, eL] at this
      have g : ((n - j : Nat) : Int) * need (rp v ms s (j + i2)).1 h r ≤ ((n - j : Nat) : Int) * (q2 : Int) := Int.mul_le_mul_of_nonneg_left nl (by omega)
      have c1 : (t : Int) = (j : Int) + (i2 : Int) + ((n - j : Nat) : Int) * (q2 : Int) := by rw [e, Int.natCast_add, Int.natCast_add, Int.natCast_mul]
      have c2 : (t : Int) < (j : Int) + (i : Int) + ((n - j : Nat) : Int) * (q : Int) := by
        have : ((t : Nat) : Int) < ((j + i + (n - j) * q : Nat) : Int) := by omega
        rwa [Int.natCast_add, Int.natCast_add, Int.natCast_mul] at this
      omega
end
end PD

/-! PD33: a < b <= c; cycles by the pitches, bounds of first times, first times told -/
namespace PD
open PySem PySem.Spec PyProof.Rows L2 Evl
section
variable {v : Dv} {ms : List Int} {s : Sv}
theorem Fst.bound {n j k : Nat} (ok : v.Ok) (cy : Cyc v ms s n j) {h : Int} (f : Fst v ms s h (some k)) {B : Nat} (b1 : h.natAbs ≤ B) (b2 : (rp v ms s j).1.natAbs ≤ B) : k ≤ 576 + 576 * (2 * B) := by
  have lt := cy.lt
  have n5 := cy.le ok
  have r := cy.rise ok
  by_cases hk : k ≤ n
  · omega
  · have r0 : 0 < (rp v ms s n).1 - (rp v ms s j).1 := by
      apply Int.not_le.mp
      intro z
      have ez : (rp v ms s n).1 - (rp v ms s j).1 = 0 := by omega
      obtain ⟨i, q, hi, e, e2⟩ := cy.part ok k (by omega)
      rw [ez, Int.mul_zero, Int.add_zero] at e2
      have := f.2 (j + i) (by omega)
      have := f.1
      omega
    have hj := f.2 j (by omega)
    have m := cy.many ok 0 (h - (rp v ms s j).1).toNat
    have em : ((h - (rp v ms s j).1).toNat : Int) = h - (rp v ms s j).1 := by omega
    have g : (h - (rp v ms s j).1) * 1 ≤ (h - (rp v ms s j).1) * ((rp v ms s n).1 - (rp v ms s j).1) := Int.mul_le_mul_of_nonneg_left (by omega) (by omega)
    rw [em] at m
    have t1 : k ≤ j + 0 + (n - j) * (h - (rp v ms s j).1).toNat := by
      apply Nat.not_lt.mp
      intro z
      have := f.2 _ z
      simp only [Nat.add_zero] at m this
      omega
    have t2 : (n - j) * (h - (rp v ms s j).1).toNat ≤ 576 * (2 * B) := Nat.mul_le_mul (by omega) (by omega)
    omega
end
end PD

/-! PD34: xs, y = [e], b -/
namespace PD
open PySem PySem.Spec PyProof.Rows L2 Evl
section
variable {c : Cn} {K : PySem.W.Frag} {ds : DS} {pl : List D} {te : TE} {E : EE}
end
end PD

/-! PD35: gcd; the mean rise of moves at a hand (mathematics) -/
namespace PD
open PySem PySem.Spec PyProof.Rows L2 Evl
section
variable {c : Cn} {K : PySem.W.Frag} {ds : DS} {pl : List D} {Φ : W → List D → Prop}
theorem cb_gcd {a b : Int} (h : Φ (.d (.int ((Nat.gcd a.natAbs b.natAbs : Nat) : Int))) pl) : CbS c rGcd ds [.int a, .int b] pl Φ := fun G σ H vs hs f Q q => by
  obtain ⟨v, u, rfl, x, y⟩ := ra2 f
  cases x
  cases y
  exact ⟨a, b, rfl, q _ G H (.d _) pl hs (Ex.refl _) (R.int _) h⟩
end
section
variable {v : Dv} {ms : List Int} {hand : Int}
theorem com_pp (ok : v.Ok) : Com v (v.1.p * v.2.p) := by
  have p1 := ok.1.p1
  have p24 := ok.1.p24
  have q1 := ok.2.p1
  have q24 := ok.2.p24
  have e : 1 * 1 ≤ v.1.p * v.2.p := Int.mul_le_mul p1 q1 (by omega) (by omega)
  have e2 : v.1.p * v.2.p ≤ 24 * 24 := Int.mul_le_mul (by omega) (by omega) (by omega) (by omega)
  exact ⟨by omega, Int.mul_emod_right _ _, Int.mul_emod_left _ _, by omega⟩
theorem mean_le (ok : v.Ok) {a b : Int} (hab : a ≤ b) {n1 j1 n2 j2 : Nat} (c1 : Cyc v ms (a, hand) n1 j1) (c2 : Cyc v ms (b, hand) n2 j2) :
    ((rp v ms (a, hand) n1).1 - (rp v ms (a, hand) j1).1) * ((n2 - j2 : Nat) : Int) = ((rp v ms (b, hand) n2).1 - (rp v ms (b, hand) j2).1) * ((n1 - j1 : Nat) : Int) := by
  have cm := com_pp ok
  have L0 := cm.pos
  generalize hL : v.1.p * v.2.p = L at cm L0
  generalize hr1 : (rp v ms (a, hand) n1).1 - (rp v ms (a, hand) j1).1 = r1
  generalize hr2 : (rp v ms (b, hand) n2).1 - (rp v ms (b, hand) j2).1 = r2
  have diff : ∀ t, 0 ≤ (rp v ms (b, hand) t).1 - (rp v ms (a, hand) t).1 ∧ (rp v ms (b, hand) t).1 - (rp v ms (a, hand) t).1 ≤ L * (b - a) := fun t => by
    have rw1 := row_rp ok cm hand ms t
    have m1 := rw1.mono a b hab
    have e : (b - a) * 1 ≤ (b - a) * L := Int.mul_le_mul_of_nonneg_left (by omega) (by omega)
    have e' : L * (b - a) = (b - a) * L := Int.mul_comm _ _
    have m2 := rw1.mono b (a + L * (b - a)) (by omega)
    have m3 := rw1.per a (b - a)
    have m1' : (rp v ms (a, hand) t).1 ≤ (rp v ms (b, hand) t).1 := m1
    have m2' : (rp v ms (b, hand) t).1 ≤ (rp v ms (a + L * (b - a), hand) t).1 := m2
    have m3' : (rp v ms (a + L * (b - a), hand) t).1 = (rp v ms (a, hand) t).1 + L * (b - a) := m3
    omega
  have at_ : ∀ m : Nat, (rp v ms (b, hand) (j1 + j2 + (n1 - j1) * (n2 - j2) * m)).1 - (rp v ms (a, hand) (j1 + j2 + (n1 - j1) * (n2 - j2) * m)).1 = (rp v ms (b, hand) (j1 + j2)).1 - (rp v ms (a, hand) (j1 + j2)).1 + (m : Int) * (r2 * ((n1 - j1 : Nat) : Int) - r1 * ((n2 - j2 : Nat) : Int)) := fun m => by
    have h1 := c1.many ok j2 ((n2 - j2) * m)
    have h2 := c2.many ok j1 ((n1 - j1) * m)
    rw [hr1, show j1 + j2 + (n1 - j1) * ((n2 - j2) * m) = j1 + j2 + (n1 - j1) * (n2 - j2) * m by rw [Nat.mul_assoc]] at h1
    rw [hr2, show j2 + j1 + (n2 - j2) * ((n1 - j1) * m) = j1 + j2 + (n1 - j1) * (n2 - j2) * m by rw [← Nat.mul_assoc, Nat.mul_comm (n2 - j2), Nat.add_comm j2], show j2 + j1 = j1 + j2 from Nat.add_comm _ _] at h2
    rw [h1, h2, Int.natCast_mul, Int.natCast_mul, Int.mul_sub]
    have x1 : ((n1 - j1 : Nat) : Int) * (m : Int) * r2 = (m : Int) * (r2 * ((n1 - j1 : Nat) : Int)) := by rw [Int.mul_comm _ (m : Int), Int.mul_assoc, Int.mul_comm _ r2]
    have x2 : ((n2 - j2 : Nat) : Int) * (m : Int) * r1 = (m : Int) * (r1 * ((n2 - j2 : Nat) : Int)) := by rw [Int.mul_comm _ (m : Int), Int.mul_assoc, Int.mul_comm _ r1]
    rw [x1, x2]
    omega
  have C0 : 0 ≤ L * (b - a) := Int.mul_nonneg (by omega) (by omega)
  generalize L * (b - a) = C at diff C0
  have d0 := diff (j1 + j2)
  have dm := diff (j1 + j2 + (n1 - j1) * (n2 - j2) * (C + 1).toNat)
  rw [at_ (C + 1).toNat, show (((C + 1).toNat : Nat) : Int) = C + 1 by omega] at dm
  generalize (rp v ms (b, hand) (j1 + j2)).1 - (rp v ms (a, hand) (j1 + j2)).1 = D0 at d0 dm
  rcases Int.lt_trichotomy (r2 * ((n1 - j1 : Nat) : Int) - r1 * ((n2 - j2 : Nat) : Int)) 0 with z | z | z
  · have g : (C + 1) * (r2 * ((n1 - j1 : Nat) : Int) - r1 * ((n2 - j2 : Nat) : Int)) ≤ (C + 1) * (-1) := Int.mul_le_mul_of_nonneg_left (by omega) (by omega)
    omega
  · omega
  · have g : (C + 1) * 1 ≤ (C + 1) * (r2 * ((n1 - j1 : Nat) : Int) - r1 * ((n2 - j2 : Nat) : Int)) := Int.mul_le_mul_of_nonneg_left (by omega) (by omega)
    omega
theorem mean_eq (ok : v.Ok) {a b : Int} {n1 j1 n2 j2 : Nat} (c1 : Cyc v ms (a, hand) n1 j1) (c2 : Cyc v ms (b, hand) n2 j2) :
    ((rp v ms (a, hand) n1).1 - (rp v ms (a, hand) j1).1) * ((n2 - j2 : Nat) : Int) = ((rp v ms (b, hand) n2).1 - (rp v ms (b, hand) j2).1) * ((n1 - j1 : Nat) : Int) := by
  rcases Int.le_total a b with h | h
  · exact mean_le ok h c1 c2
  · exact (mean_le ok h c2 c1).symm
structure Mean (v : Dv) (ms : List Int) (hand t b : Int) : Prop where
  t0 : 0 ≤ t
  b0 : 0 < b
  b5 : b ≤ 576
  low : Nat.gcd t.natAbs b.natAbs = 1
  eq : ∀ (a : Int) (n j : Nat), Cyc v ms (a, hand) n j → t * ((n - j : Nat) : Int) = b * ((rp v ms (a, hand) n).1 - (rp v ms (a, hand) j).1)
theorem Cyc.mean (ok : v.Ok) {x : Int} {n j : Nat} (cy : Cyc v ms (x, hand) n j) {r l g : Int} (hr : (rp v ms (x, hand) n).1 - (rp v ms (x, hand) j).1 = r) (hl : (n : Int) - (j : Int) = l) (hg : ((Nat.gcd r.natAbs l.natAbs : Nat) : Int) = g) : 0 < g ∧ g ≤ 576 ∧ Mean v ms hand (r / g) (l / g) := by
  have lt := cy.lt
  have n5 := cy.le ok
  have r0 := cy.rise ok
  have gp : 0 < Nat.gcd r.natAbs l.natAbs := Nat.gcd_pos_of_pos_right _ (by omega)
  have gl : Nat.gcd r.natAbs l.natAbs ≤ l.natAbs := Nat.le_of_dvd (by omega) (Nat.gcd_dvd_right _ _)
  have g0 : 0 < g := by omega
  obtain ⟨x1, hx1⟩ := Nat.gcd_dvd_left r.natAbs l.natAbs
  obtain ⟨x2, hx2⟩ := Nat.gcd_dvd_right r.natAbs l.natAbs
  have er : r = g * (x1 : Int) := by
    have : (r.natAbs : Int) = ((Nat.gcd r.natAbs l.natAbs * x1 : Nat) : Int) := by rw [← hx1]
    rw [Int.natCast_mul, hg] at this
    omega
  have el : l = g * (x2 : Int) := by
    have : (l.natAbs : Int) = ((Nat.gcd r.natAbs l.natAbs * x2 : Nat) : Int) := by rw [← hx2]
    rw [Int.natCast_mul, hg] at this
    omega
  have ed1 : r / g = (x1 : Int) := by rw [er]; exact Int.mul_ediv_cancel_left _ (by omega)
  have ed2 : l / g = (x2 : Int) := by rw [el]; exact Int.mul_ediv_cancel_left _ (by omega)
  have x2p : 0 < x2 := by
    rcases Nat.eq_zero_or_pos x2 with z | z
    · rw [z, Int.natCast_zero, Int.mul_zero] at el; omega
    · exact z
  have x2l : (x2 : Int) ≤ 576 := by
    have : 1 * (x2 : Int) ≤ g * (x2 : Int) := Int.mul_le_mul_of_nonneg_right (by omega) (by omega)
    omega
  refine ⟨g0, by omega, ?_⟩
  rw [ed1, ed2]
  refine ⟨by omega, by omega, x2l, ?_, fun a n' j' c' => ?_⟩
  · rw [Int.natAbs_natCast, Int.natAbs_natCast]
    have h1 : Nat.gcd r.natAbs l.natAbs * Nat.gcd x1 x2 = Nat.gcd r.natAbs l.natAbs * 1 := by
      rw [← Nat.gcd_mul_left, ← hx1, ← hx2, Nat.mul_one]
    exact Nat.eq_of_mul_eq_mul_left gp h1
  · have h := mean_eq ok cy c'
    rw [hr] at h
    have en : ((n - j : Nat) : Int) = l := by omega
    rw [en, er, el] at h
    apply Int.eq_of_mul_eq_mul_left (show g ≠ 0 by omega)
    rw [← Int.mul_assoc, ← Int.mul_assoc, h, Int.mul_comm]
end
theorem sl_zero {cb : Comb} (ok : cb.Ok) : ∃ r, r ∈ sl cb ∧ r = 0 := by
  refine ⟨0, ?_, rfl⟩
  obtain ⟨a1, a2, a3⟩ := flo_spec ok 0
  have p0 := ok.p1
  have m0 := Int.emod_nonneg (flo cb 0) (show cb.p ≠ 0 by omega)
  have m1 := Int.emod_lt_of_pos (flo cb 0) (show 0 < cb.p by omega)
  have e : slk cb (flo cb 0 % cb.p) = 0 := by
    rw [slk_mod ok]
    obtain ⟨b1, b2, b3⟩ := flo_spec ok (flo cb 0)
    unfold slk
    by_cases h : flo cb (flo cb 0) < flo cb 0
    · have := b3 (flo cb 0) h (Int.le_refl _)
      rw [a2] at this; cases this
    · omega
  refine List.mem_map.mpr ⟨(flo cb 0 % cb.p).toNat, List.mem_range.mpr (by omega), ?_⟩
  rw [show (((flo cb 0 % cb.p).toNat : Nat) : Int) = flo cb 0 % cb.p by omega]
  exact e
end PD

/-! PD36: a, b, c = e; slices of tuples; later states of a cycle -/
namespace PD
open PySem PySem.Spec PyProof.Rows L2 Evl
section
variable {c : Cn} {K : PySem.W.Frag} {ds : DS} {pl : List D} {Φ : W → List D → Prop} {te ta : TE} {E : EE}
theorem ws_unp3 {i j l n : Nat} (hn : n = 3) (h : WE c te ds pl (isD fun d p1 => ∃ x y z, d = .tuple [x, y, z] ∧ E.nx (((ds.set i (some (.d x))).set j (some (.d y))).set l (some (.d z))) p1)) : WS c (tAsg te (gTup K n (gCons (gName i) (gCons (gName j) (gCons (gName l) gNil))))) ds pl E := fun G σ H hs D' f =>
  h G σ H hs _ fun v G1 H1 w p1 h1 e1 f1 g1 => by
    subst hn
    match w, f1, g1 with
    | .d d, f1, ⟨x, y, z, ed, g1⟩ =>
      subst ed
      cases f1 with
      | tup a b =>
        cases b with
        | cons r1 b =>
          cases b with
          | cons r2 b =>
            cases b with
            | cons r3 b =>
              cases b
              refine ⟨_, _, rfl, SqT.of (h1.sub _ _ a), rfl, _, _, rfl, _, _, rfl, _, _, rfl, rfl, ?_⟩
              exact f.nx G1 _ H1 _ p1 (((h1.set (w := .d x) r1 fun xs z => by cases z).set (w := .d y) r2 fun xs z => by cases z).set (w := .d z) r3 fun xs z => by cases z) e1 g1
end
section
variable {v : Dv} {ms : List Int} {s : Sv}
theorem plc_step (ok : v.Ok) {a b : Nat} (h : plc v (rp v ms s a) = plc v (rp v ms s b)) (i : Nat) : plc v (rp v ms s (a + i)) = plc v (rp v ms s (b + i)) := by
  rw [rp_add, rp_add]
  exact plc_shift h (rp_shift ok ms h i)
theorem Cyc.per {n j : Nat} (ok : v.Ok) (cy : Cyc v ms s n j) {x : Nat} (h : j ≤ x) : ∀ k : Nat, plc v (rp v ms s (x + (n - j) * k)) = plc v (rp v ms s x)
  | 0 => rfl
  | k + 1 => by
    have lt := cy.lt
    have e := plc_step ok cy.eq (x - j + (n - j) * k)
    rw [show x + (n - j) * (k + 1) = n + (x - j + (n - j) * k) by rw [Nat.mul_add]; omega, ← e, show j + (x - j + (n - j) * k) = x + (n - j) * k by omega]
    exact cy.per ok h k
theorem Cyc.dvd {n j : Nat} (ok : v.Ok) (cy : Cyc v ms s n j) {x k : Nat} (h : j ≤ x) (e : plc v (rp v ms s x) = plc v (rp v ms s (x + k))) : (n - j) ∣ k := by
  have lt := cy.lt
  have red : ∀ y, j ≤ y → plc v (rp v ms s y) = plc v (rp v ms s (j + (y - j) % (n - j))) := fun y hy => by
    have q := cy.per ok (x := j + (y - j) % (n - j)) (by omega) ((y - j) / (n - j))
    rw [← q]
    congr 2
    have := Nat.mod_add_div (y - j) (n - j)
    omega
  have m1 := Nat.mod_lt (x - j) (show 0 < n - j by omega)
  have m2 := Nat.mod_lt (x + k - j) (show 0 < n - j by omega)
  rw [red x h, red (x + k) (by omega)] at e
  have eq : (x - j) % (n - j) = (x + k - j) % (n - j) := by
    rcases Nat.lt_trichotomy ((x - j) % (n - j)) ((x + k - j) % (n - j)) with z | z | z
    · exact absurd e (cy.inj _ _ (by omega) (by omega))
    · exact z
    · exact absurd e.symm (cy.inj _ _ (by omega) (by omega))
  have a1 := Nat.mod_add_div (x - j) (n - j)
  have a2 := Nat.mod_add_div (x + k - j) (n - j)
  have a3 : (n - j) * ((x - j) / (n - j)) + k = (n - j) * ((x + k - j) / (n - j)) := by omega
  exact (Nat.dvd_add_right (Nat.dvd_mul_right _ _)).mp (a3 ▸ Nat.dvd_mul_right (n - j) _)
end
def c24 : Comb := ⟨24, [0]⟩
def c23 : Comb := ⟨23, [0]⟩
end PD

/-! PD37: found.append(left.pop(k)); left, found = list(range(n)), [] -/
namespace PD
open PySem PySem.Spec PyProof.Rows L2 Evl
theorem seqIx_nat {n l : Nat} (h : n < l) : seqIndex? (n : Int) l = some n := by
  unfold seqIndex?
  simp
  omega
section
variable {c : Cn} {K : PySem.W.Frag} {ds : DS} {pl : List D} {Φ : W → List D → Prop} {te ta : TE} {E : EE}
theorem ws_appPop {i j : Nat} {xs ys : List D} (hi : ds[i]? = some (some (.o xs))) (hj : ds[j]? = some (some (.o ys))) (hij : i ≠ j)
    (h : WE c te ds pl (isI fun k p1 => ∃ (n : Nat) (y : D), k = (n : Int) ∧ n < 100000 ∧ ys[n]? = some y ∧ xs.length < sizeLine ∧ E.nx ((ds.set j (some (.o (ys.eraseIdx n)))).set i (some (.o (xs ++ [y])))) p1)) :
    WS c (tDrop (tBM K "list" rAppend (tVar i) (tCons (tBM K "list" rPopAt (tVar j) (tCons te tNil)) tNil))) ds pl E := fun G σ H hs D' f => by
  obtain ⟨v, e1, p, vs, rfl, b1, b2⟩ := hs.slots i _ hi
  obtain ⟨v2, d1, p2, vs2, rfl, b3, b4⟩ := hs.slots j _ hj
  refine ⟨_, e1, Or.inl ⟨rfl, _, SqL.of b1⟩, ?_⟩
  refine ⟨_, d1, Or.inl ⟨rfl, _, SqL.of b3⟩, ?_⟩
  refine h G σ H hs _ fun v G1 H1 w p1 h1 e2 f1 g1 => ?_
  match w, f1, g1 with
  | .d (.int k), f1, ⟨n, y, ek, hn, hy, hl, g2⟩ =>
    subst ek
    cases f1
    obtain ⟨v', e1', p', vs', rfl, c1, c2, _⟩ := h1.slots i _ hi
    have ep : p' = p := by rw [e1] at e1'; exact (V.ref.inj (Option.some.inj (Option.some.inj e1'))).symm
    subst ep
    obtain ⟨v3, d1', p3, vs3, rfl, c3, c4, _⟩ := h1.slots j _ hj
    have ep2 : p3 = p2 := by rw [d1] at d1'; exact (V.ref.inj (Option.some.inj (Option.some.inj d1'))).symm
    subst ep2
    have hlt : n < ys.length := (List.getElem?_eq_some_iff.mp hy).1
    have hlt2 : n < vs3.length := by rw [c4.len]; exact hlt
    obtain ⟨yd, hyd, hr⟩ := c4.get' (List.getElem?_eq_getElem hlt2)
    rw [hy] at hyd
    cases hyd
    refine ⟨p3, vs3, (n : Int), n, vs3[n], rfl, rfl, c3, by omega, by omega, seqIx_nat hlt2, List.getElem?_eq_getElem hlt2, ?_⟩
    have h2 := h1.chg hj d1 (c4.erase n)
    have hi2 : (ds.set j (some (.o (ys.eraseIdx n))))[i]? = some (some (.o xs)) := by rw [List.getElem?_set_ne (Ne.symm hij)]; exact hi
    obtain ⟨v4, e4, p4, vs4, rfl, c5, c6, _⟩ := h2.slots i _ hi2
    have ep4 : p4 = p' := by rw [e1] at e4; exact (V.ref.inj (Option.some.inj (Option.some.inj e4))).symm
    subst ep4
    refine ⟨p4, vs4, vs3[n], rfl, rfl, c5, by rw [c6.len]; exact hl, ?_⟩
    exact f.nx G1 σ _ _ p1 (h2.chg hi2 e1 (c6.app (.cons hr .nil))) e2 g2
theorem ws_parLR {i j : Nat} (h : WE c ta ds pl (isI fun k p1 => ∃ n : Nat, k = (n : Int) ∧ n ≤ 100000 ∧ E.nx ((ds.set i (some (.o (((List.range n).map fun (i : Nat) => (i : Int)).map PyData.int)))).set j (some (.o []))) p1)) :
    WS c (tPar i j (tCons (tLstRg (tRg1 ta)) (tCons (tLst tNil) tNil))) ds pl E := fun G σ H hs D' f =>
  h G σ H hs _ fun v G1 H1 w p1 h1 e1 f1 g1 => by
    match w, f1, g1 with
    | .d (.int k), f1, ⟨n, ek, hn, g1⟩ =>
      subst ek
      cases f1
      refine ⟨n, rfl, RgOk.of_le (by omega) (by omega) (by omega) (by omega), fun l hl => ?_⟩
      refine ⟨Nat.zero_le _, fun p hp => ⟨_, _, rfl, ?_⟩⟩
      rw [rgV_ints] at hp ⊢
      exact f.nx G1 _ _ _ p1 ((h1.newO hl (RA.of_ints _) i).newO hp .nil j) e1 g1
end
end PD

/-! PD38: erased items (mathematics); cycles within the remainders of bars (mathematics) -/
namespace PD
open PySem PySem.Spec PyProof.Rows L2 Evl
theorem erase_map {A B : Type} (f : A → B) : ∀ (l : List A) (n : Nat), (l.map f).eraseIdx n = (l.eraseIdx n).map f
  | [], _ => rfl
  | _ :: _, 0 => rfl
  | a :: r, n + 1 => by
    show f a :: (r.map f).eraseIdx n = f a :: (r.eraseIdx n).map f
    rw [erase_map f r n]
theorem erase_perm {A : Type} : ∀ {l : List A} {n : Nat} (h : n < l.length), (l[n] :: l.eraseIdx n).Perm l
  | a :: r, 0, _ => .refl _
  | a :: r, n + 1, h => by
    have h' : n < r.length := Nat.lt_of_succ_lt_succ h
    show (r[n] :: a :: r.eraseIdx n).Perm (a :: r)
    exact (List.Perm.swap a r[n] _).trans ((erase_perm h').cons a)
section
variable {v : Dv} {ms : List Int} {x arm : Int}
theorem least_nat (P : Nat → Prop) : ∀ k, P k → ∃ n, n ≤ k ∧ P n ∧ ∀ m, m < n → ¬ P m := fun k => by
  induction k using Nat.strongRecOn with
  | _ k ih =>
    intro hk
    by_cases h : ∃ m, m < k ∧ P m
    · obtain ⟨m, hm, pm⟩ := h
      obtain ⟨n, h1, h2, h3⟩ := ih m hm pm
      exact ⟨n, by omega, h2, h3⟩
    · exact ⟨k, Nat.le_refl _, hk, fun m hm pm => h ⟨m, hm, pm⟩⟩
theorem cyc_back {s : Sv} (ok : v.Ok) {k : Nat} (hk : 0 < k) (e : plc v s = plc v (rp v ms s k)) : ∃ n, n ≤ k ∧ Cyc v ms s n 0 := by
  obtain ⟨n, h1, ⟨h2, h3⟩, h4⟩ := least_nat (fun n => 0 < n ∧ plc v s = plc v (rp v ms s n)) k ⟨hk, e⟩
  refine ⟨n, h1, ⟨h2, h3, fun i i' hi hi' e2 => ?_⟩⟩
  have q := plc_step ok e2 (n - i')
  rw [show i' + (n - i') = n by omega] at q
  exact h4 (i + (n - i')) (by omega) ⟨by omega, h3.trans q.symm⟩
theorem Mean.told {t b : Int} (ok : v.Ok) (mn : Mean v ms arm t b) {y : Int} {k : Nat} (hk : 0 < k) (e : plc v (y, arm) = plc v (rp v ms (y, arm) k)) : ((rp v ms (y, arm) k).1 - y) * b = t * (k : Int) ∧ b ≤ (k : Int) := by
  obtain ⟨n, hn, cy⟩ := cyc_back ok hk e
  have lt := cy.lt
  obtain ⟨q, hq⟩ := cy.dvd ok (x := 0) (Nat.le_refl _) (show plc v (rp v ms (y, arm) 0) = plc v (rp v ms (y, arm) (0 + k)) by rw [Nat.zero_add]; exact e)
  have m := cy.many ok 0 q
  rw [show 0 + 0 + (n - 0) * q = k by omega] at m
  have z0 : (rp v ms (y, arm) (0 + 0)).1 = y := rfl
  have z1 : (rp v ms (y, arm) 0).1 = y := rfl
  rw [z0] at m
  have me := mn.eq y n 0 cy
  rw [z1, Nat.sub_zero] at me
  have kq : (k : Int) = (n : Int) * (q : Int) := by rw [hq, Nat.sub_zero, Int.natCast_mul]
  constructor
  · rw [m, kq, show y + (q : Int) * ((rp v ms (y, arm) n).1 - y) - y = (q : Int) * ((rp v ms (y, arm) n).1 - y) by omega, Int.mul_assoc, Int.mul_comm ((rp v ms (y, arm) n).1 - y) b, ← me, Int.mul_left_comm, Int.mul_comm (q : Int)]
  · have d : b.natAbs ∣ n := by
      have c1 : Nat.Coprime b.natAbs t.natAbs := (Nat.gcd_comm _ _).trans mn.low
      refine c1.dvd_of_dvd_mul_left ?_
      have := congrArg Int.natAbs me
      rw [Int.natAbs_mul, Int.natAbs_mul, Int.natAbs_natCast] at this
      rw [this]
      exact Nat.dvd_mul_right _ _
    have := Nat.le_of_dvd lt d
    have b0 := mn.b0
    omega
end
end PD

/-! PD39: comprehensions over a range that is met; cycles are there; one mean alone -/
namespace PD
open PySem PySem.Spec PyProof.Rows L2 Evl
section
variable {c : Cn} {K : PySem.W.Frag} {ds : DS} {pl : List D} {Φ : W → List D → Prop} {te : TE} {tt : TT} {tr : TA}
end
section
variable {v : Dv} {ms : List Int} {s : Sv} {arm : Int}
theorem cyc_ex (ok : v.Ok) : ∃ n j, Cyc v ms s n j := by
  have ex : ∃ k, ∃ i, i < k ∧ plc v (rp v ms s i) = plc v (rp v ms s k) := by
    apply Classical.byContradiction
    intro no
    have := inj_le ok (ms := ms) (s := s) (n := 577) fun i k hik hk e => no ⟨k, i, hik, e⟩
    omega
  obtain ⟨k, hk⟩ := ex
  obtain ⟨n, _, ⟨j, hj, e⟩, lo⟩ := least_nat (fun k => ∃ i, i < k ∧ plc v (rp v ms s i) = plc v (rp v ms s k)) k hk
  exact ⟨n, j, hj, e, fun i i' hi hi' e2 => lo i' hi' ⟨i, hi, e2⟩⟩
theorem Mean.uniq {t b t' b' : Int} (ok : v.Ok) (m : Mean v ms arm t b) (m' : Mean v ms arm t' b') : t = t' ∧ b = b' := by
  obtain ⟨n, j, cy⟩ := cyc_ex (v := v) (ms := ms) (s := (0, arm)) ok
  have lt := cy.lt
  have e1 := m.eq 0 n j cy
  have e2 := m'.eq 0 n j cy
  have n0 : ((n - j : Nat) : Int) ≠ 0 := by omega
  have k1 : t * b' = t' * b := by
    apply Int.eq_of_mul_eq_mul_right n0
    have h1 : t * b' * ((n - j : Nat) : Int) = b * ((rp v ms (0, arm) n).1 - (rp v ms (0, arm) j).1) * b' := by rw [Int.mul_right_comm, e1]
    have h2 : t' * b * ((n - j : Nat) : Int) = b' * ((rp v ms (0, arm) n).1 - (rp v ms (0, arm) j).1) * b := by rw [Int.mul_right_comm, e2]
    rw [h1, h2, Int.mul_comm (b * _) b', Int.mul_comm b, ← Int.mul_assoc]
  have t0 := m.t0
  have b0 := m.b0
  have t0' := m'.t0
  have b0' := m'.b0
  have kn : t.natAbs * b'.natAbs = t'.natAbs * b.natAbs := by rw [← Int.natAbs_mul, ← Int.natAbs_mul, k1]
  have d1 : b.natAbs ∣ b'.natAbs := by
    have c1 : Nat.Coprime b.natAbs t.natAbs := (Nat.gcd_comm _ _).trans m.low
    refine c1.dvd_of_dvd_mul_left ?_
    rw [kn]; exact Nat.dvd_mul_left _ _
  have d2 : b'.natAbs ∣ b.natAbs := by
    have c1 : Nat.Coprime b'.natAbs t'.natAbs := (Nat.gcd_comm _ _).trans m'.low
    refine c1.dvd_of_dvd_mul_left ?_
    rw [← kn]; exact Nat.dvd_mul_left _ _
  have eb := Nat.dvd_antisymm d1 d2
  have eb' : b = b' := by omega
  subst eb'
  exact ⟨Int.eq_of_mul_eq_mul_right (by omega) k1, rfl⟩
end
end PD

/-! PD40: in a tuple of numbers; means told -/
namespace PD
open PySem PySem.Spec PyProof.Rows L2 Evl
section
variable {c : Cn} {K : PySem.W.Frag} {ds : DS} {pl : List D} {Φ : W → List D → Prop}
end
end PD

/-! PD41: means at hands a common pitch away; pumps of greater spans (mathematics) -/
namespace PD
open PySem PySem.Spec PyProof.Rows L2 Evl
section
variable {v : Dv} {ms : List Int} {arm : Int}
end
def w24 : Comb := ⟨24, [0, 5]⟩
def w23 : Comb := ⟨23, [1, 9, 20]⟩
end PD

/-! PD42: a bound of means -/
namespace PD
open PySem PySem.Spec PyProof.Rows L2 Evl
theorem mean_bound2 {v : Dv} {ms : List Int} {arm t b : Int} (ok : v.Ok) (mn : Mean v ms arm t b) (mb : ∀ m ∈ ms, m.natAbs ≤ 10 ^ 42) (ml : ms.length ≤ 40) : t ≤ 10 ^ 60 := by
  obtain ⟨n, j, cy⟩ := cyc_ex (v := v) (ms := ms) (s := (0, arm)) ok
  have lt := cy.lt
  have n5 := cy.le ok
  have e := mn.eq 0 n j cy
  have h2 : ms.length * (10 ^ 42 + 48) ≤ 40 * (10 ^ 42 + 48) := Nat.mul_le_mul_right _ ml
  have hb : ∀ i, i ≤ 576 → (rp v ms (0, arm) i).1.natAbs ≤ 10 ^ 47 := fun i hi => by
    have h1 := (rp_bound ok mb (0, arm) i).1
    have h3 : i * (ms.length * (10 ^ 42 + 48)) ≤ 576 * (40 * (10 ^ 42 + 48)) := Nat.mul_le_mul hi h2
    have h4 : (rp v ms (0, arm) i).1.natAbs ≤ (0 : Int).natAbs + i * (ms.length * (10 ^ 42 + 48)) := h1
    omega
  have b1 := hb n n5
  have b2 := hb j (by omega)
  have r0 := cy.rise ok
  have k1 : t * 1 ≤ t * ((n - j : Nat) : Int) := Int.mul_le_mul_of_nonneg_left (by omega) mn.t0
  have k2 : b * ((rp v ms (0, arm) n).1 - (rp v ms (0, arm) j).1) ≤ 576 * ((rp v ms (0, arm) n).1 - (rp v ms (0, arm) j).1) := Int.mul_le_mul_of_nonneg_right mn.b5 (by omega)
  omega
end PD

/-! PD43: pumps of greater spans never raise less (mathematics) -/
namespace PD
open PySem PySem.Spec PyProof.Rows L2 Evl
theorem flo_of {c : Comb} (ok : c.Ok) {a : Int} (h : caught c a = true) : flo c a = a := by
  obtain ⟨a1, a2, a3⟩ := flo_spec ok a
  by_cases y : flo c a < a
  · have := a3 a y (Int.le_refl _)
    rw [h] at this; cases this
  · omega
section
variable {v : Dv} {arm : Int}
theorem pump_eq (v : Dv) (arm h : Int) {z : Int} (z0 : 0 < z) : mvs v (h, arm) [z, -z] = (max (max h (flo v.2 (h - arm) + arm + z) - z) (flo v.1 (max h (flo v.2 (h - arm) + arm + z))), arm) := by
  have m1 : mv v (h, arm) z = (max h (flo v.2 (h - arm) + arm + z), arm + z) := by
    unfold mv
    rw [if_pos (show z > 0 by omega)]
    ext
    · show arm + z + max (h - arm - z) (flo v.2 (h - arm)) = _
      omega
    · rfl
  show mv v (mv v (h, arm) z) (-z) = _
  rw [m1]
  unfold mv
  rw [if_neg (show ¬ -z > 0 by omega)]
  ext
  · show max (_ + -z) _ = _
    rw [← Int.sub_eq_add_neg]
  · show arm + z + -z = arm
    omega
theorem held_ex (ok : v.Ok) (arm : Int) : ∃ h, held v (h, arm) = true := by
  refine ⟨flo v.1 0, ?_⟩
  unfold held
  rw [show caught v.1 (flo v.1 0, arm).1 = true from (flo_spec ok.1 0).2.1, Bool.true_or]
end
end PD

/-! PD44: a pump raises by no more than its span, and by no less than it without the longest slacks (mathematics) -/
namespace PD
open PySem PySem.Spec PyProof.Rows L2 Evl
section
variable {v : Dv} {arm : Int}
theorem slk_in {cb : Comb} (ok : cb.Ok) (n : Int) : slk cb n ∈ sl cb := by
  have p0 := ok.p1
  have m0 := Int.emod_nonneg n (show cb.p ≠ 0 by omega)
  have m1 := Int.emod_lt_of_pos n (show 0 < cb.p by omega)
  refine List.mem_map.mpr ⟨(n % cb.p).toNat, List.mem_range.mpr (by omega), ?_⟩
  rw [show (((n % cb.p).toNat : Nat) : Int) = n % cb.p by omega]
  exact slk_mod ok n
theorem pump_rise (ok : v.Ok) {h z s1 s2 : Int} (z0 : 0 < z) (b1 : ∀ y ∈ sl v.1, y ≤ s1) (b2 : ∀ y ∈ sl v.2, y ≤ s2) : (mvs v (h, arm) [z, -z]).1 ≤ h + z ∧ h + z - s1 - s2 ≤ (mvs v (h, arm) [z, -z]).1 := by
  rw [pump_eq v arm h z0]
  have f2 := flo_le ok.2 (h - arm)
  have f1 := flo_le ok.1 (max h (flo v.2 (h - arm) + arm + z))
  have k2 := b2 _ (slk_in ok.2 (h - arm))
  have k1 := b1 _ (slk_in ok.1 (max h (flo v.2 (h - arm) + arm + z)))
  unfold slk at k1 k2
  show max (max h (flo v.2 (h - arm) + arm + z) - z) (flo v.1 (max h (flo v.2 (h - arm) + arm + z))) ≤ _ ∧ _ ≤ max (max h (flo v.2 (h - arm) + arm + z) - z) (flo v.1 (max h (flo v.2 (h - arm) + arm + z)))
  omega
theorem pump_rises (ok : v.Ok) {h z s1 s2 : Int} (z0 : 0 < z) (b1 : ∀ y ∈ sl v.1, y ≤ s1) (b2 : ∀ y ∈ sl v.2, y ≤ s2) (i : Nat) : ∀ k : Nat, (rp v [z, -z] (h, arm) (i + k)).1 ≤ (rp v [z, -z] (h, arm) i).1 + z * (k : Int) ∧ (rp v [z, -z] (h, arm) i).1 + (z - s1 - s2) * (k : Int) ≤ (rp v [z, -z] (h, arm) (i + k)).1
  | 0 => by
    rw [Int.natCast_zero, Int.mul_zero, Int.mul_zero, Nat.add_zero]
    omega
  | k + 1 => by
    obtain ⟨i1, i2⟩ := pump_rises (h := h) ok z0 b1 b2 i k
    have e1 : (rp v [z, -z] (h, arm) (i + k)).2 = arm := by rw [rp_hand]; show arm + ((i + k : Nat) : Int) * (z + (-z + 0)) = arm; rw [show z + (-z + 0) = 0 by omega, Int.mul_zero, Int.add_zero]
    have w1 : rp v [z, -z] (h, arm) (i + k) = ((rp v [z, -z] (h, arm) (i + k)).1, arm) := by ext; rfl; exact e1
    have q : rp v [z, -z] (h, arm) (i + (k + 1)) = mvs v ((rp v [z, -z] (h, arm) (i + k)).1, arm) [z, -z] := by rw [← w1]; rfl
    rw [q]
    obtain ⟨r1, r2⟩ := pump_rise (arm := arm) (h := (rp v [z, -z] (h, arm) (i + k)).1) ok z0 b1 b2
    rw [show ((k + 1 : Nat) : Int) = (k : Int) + 1 by omega, Int.mul_add, Int.mul_add, Int.mul_one, Int.mul_one]
    omega
theorem Mean.spans (ok : v.Ok) {z t b s1 s2 : Int} (z0 : 0 < z) (m : Mean v [z, -z] arm t b) (b1 : ∀ y ∈ sl v.1, y ≤ s1) (b2 : ∀ y ∈ sl v.2, y ≤ s2) : t ≤ z * b ∧ (z - s1 - s2) * b ≤ t := by
  obtain ⟨n, j, cy⟩ := cyc_ex (v := v) (ms := [z, -z]) (s := (0, arm)) ok
  have lt := cy.lt
  have e := m.eq 0 n j cy
  have p := pump_rises (arm := arm) (h := 0) ok z0 b1 b2 j (n - j)
  rw [show j + (n - j) = n by omega] at p
  have l0 : 0 < ((n - j : Nat) : Int) := by omega
  have b0 := m.b0
  constructor
  · apply Int.le_of_mul_le_mul_right _ l0
    rw [e, show z * b * ((n - j : Nat) : Int) = b * (z * ((n - j : Nat) : Int)) by ac_rfl]
    exact Int.mul_le_mul_of_nonneg_left (by omega) (by omega)
  · apply Int.le_of_mul_le_mul_right _ l0
    rw [e, show (z - s1 - s2) * b * ((n - j : Nat) : Int) = b * ((z - s1 - s2) * ((n - j : Nat) : Int)) by ac_rfl]
    exact Int.mul_le_mul_of_nonneg_left (by omega) (by omega)
theorem mean_ex (ok : v.Ok) (ms : List Int) (arm : Int) : ∃ t b, Mean v ms arm t b := by
  obtain ⟨n, j, cy⟩ := cyc_ex (v := v) (ms := ms) (s := (0, arm)) ok
  exact ⟨_, _, (cy.mean ok rfl rfl rfl).2.2⟩
end
end PD

/-! PD45: a mean above 0 is 1 at least (mathematics) -/
namespace PD
open PySem PySem.Spec PyProof.Rows L2 Evl
section
variable {v : Dv} {ms : List Int} {arm : Int}
end
end PD

/-! PD46: a dict of numbers; a new list beside a value -/
namespace PD
open PySem PySem.Spec PyProof.Rows L2 Evl
inductive RK (G : Hp) : List (Key × V) → List (Int × D) → Prop
  | nil : RK G [] []
  | cons {k : Int} {v : V} {d : D} {vs : List (Key × V)} {ks : List (Int × D)} (a : R G v d) (b : RK G vs ks) : RK G ((.inl k, v) :: vs) ((k, d) :: ks)
theorem RK.len {G : Hp} {vs : List (Key × V)} {ks : List (Int × D)} (h : RK G vs ks) : vs.length = ks.length := by
  induction h with
  | nil => rfl
  | cons a b ih => rw [List.length_cons, List.length_cons, ih]
def look (ks : List (Int × D)) (k : Int) : Option D := (ks.find? fun kv => decide (kv.1 = k)).map (·.2)
theorem valV_cons' (a : Key) (v : V) (vs : List (Key × V)) (k : Key) : valV ((a, v) :: vs) k = if a = k then some v else valV vs k := by
  unfold valV
  rw [List.find?_cons]
  by_cases e : a = k
  · rw [if_pos e, show decide ((a, v).1 = k) = true from decide_eq_true e]; rfl
  · rw [if_neg e, show decide ((a, v).1 = k) = false from decide_eq_false e]
theorem putK_new {κ : Type} [DecidableEq κ] (kvs : List (κ × V)) (k : κ) (x : V) (h : valV kvs k = none) : putK kvs k x = kvs ++ [(k, x)] := by
  unfold putK
  rw [if_neg]
  intro z
  obtain ⟨kv, h1, h2⟩ := List.any_eq_true.mp z
  unfold valV at h
  cases e : kvs.find? fun kv => decide (kv.1 = k) with
  | some y => rw [e] at h; cases h
  | none =>
    have := List.find?_eq_none.mp e kv h1
    exact this h2
def tab (n : Nat) (f : Nat → Int × D) : List (Int × D) := (List.range n).map f
theorem com_quot {v : Dv} (ok : v.Ok) : 0 < ((Nat.gcd v.1.p.natAbs v.2.p.natAbs : Nat) : Int) ∧ ((Nat.gcd v.1.p.natAbs v.2.p.natAbs : Nat) : Int) < 2 ^ 200 ∧ v.1.p * v.2.p / ((Nat.gcd v.1.p.natAbs v.2.p.natAbs : Nat) : Int) = ((Nat.lcm v.1.p.natAbs v.2.p.natAbs : Nat) : Int) ∧ Com v (v.1.p * v.2.p / ((Nat.gcd v.1.p.natAbs v.2.p.natAbs : Nat) : Int)) ∧ ∀ x : Int, x % v.1.p = 0 → x % v.2.p = 0 → x % (v.1.p * v.2.p / ((Nat.gcd v.1.p.natAbs v.2.p.natAbs : Nat) : Int)) = 0 := by
  have p1 := ok.1.p1
  have p24 := ok.1.p24
  have q1 := ok.2.p1
  have q24 := ok.2.p24
  have big : (25 : Int) < 2 ^ 200 := by decide +kernel
  have e1 : ((v.1.p.natAbs : Nat) : Int) = v.1.p := by omega
  have e2 : ((v.2.p.natAbs : Nat) : Int) = v.2.p := by omega
  have g0 : 0 < Nat.gcd v.1.p.natAbs v.2.p.natAbs := Nat.gcd_pos_of_pos_left _ (by omega)
  have g1 : Nat.gcd v.1.p.natAbs v.2.p.natAbs ≤ v.1.p.natAbs := Nat.le_of_dvd (by omega) (Nat.gcd_dvd_left _ _)
  have pos : 0 < Nat.lcm v.1.p.natAbs v.2.p.natAbs := Nat.lcm_pos (by omega) (by omega)
  have le : Nat.lcm v.1.p.natAbs v.2.p.natAbs ≤ 24 * 24 := Nat.le_trans (Nat.le_of_dvd (Nat.mul_pos (by omega) (by omega)) (Nat.lcm_dvd_mul _ _)) (Nat.mul_le_mul (by omega) (by omega))
  have e : v.1.p * v.2.p / ((Nat.gcd v.1.p.natAbs v.2.p.natAbs : Nat) : Int) = ((Nat.lcm v.1.p.natAbs v.2.p.natAbs : Nat) : Int) := by
    have : ((v.1.p.natAbs * v.2.p.natAbs / Nat.gcd v.1.p.natAbs v.2.p.natAbs : Nat) : Int) = v.1.p * v.2.p / ((Nat.gcd v.1.p.natAbs v.2.p.natAbs : Nat) : Int) := by
      rw [Int.natCast_ediv, Int.natCast_mul, e1, e2]
    rw [← this]
    rfl
  refine ⟨by omega, by omega, e, ?_⟩
  rw [e]
  refine ⟨⟨by omega, ?_, ?_, by omega⟩, fun x h1 h2 => ?_⟩
  · apply Int.emod_eq_zero_of_dvd
    rw [← e1]
    exact Int.ofNat_dvd.mpr (by rw [Int.natAbs_natCast]; exact Nat.dvd_lcm_left _ _)
  · apply Int.emod_eq_zero_of_dvd
    rw [← e2]
    exact Int.ofNat_dvd.mpr (by rw [Int.natAbs_natCast]; exact Nat.dvd_lcm_right _ _)
  · apply Int.emod_eq_zero_of_dvd
    apply Int.natAbs_dvd_natAbs.mp
    rw [Int.natAbs_natCast]
    exact Nat.lcm_dvd (Int.natAbs_dvd_natAbs.mpr (Int.dvd_of_emod_eq_zero h1)) (Int.natAbs_dvd_natAbs.mpr (Int.dvd_of_emod_eq_zero h2))
section
variable {c : Cn} {K : PySem.W.Frag} {ds : DS} {pl : List D} {t u body : TS} {D' : Ends} {G0 : Hp} {E : EE} {Φ : W → List D → Prop} {te tk tv : TE} {tr : TA}
end
abbrev c01 : Comb := ⟨1, [0]⟩
end PD

/-! PD47: gaps, mirrored means, chains over what a call tells -/
namespace PD
open PySem PySem.Spec PyProof.Rows L2 Evl
theorem sl_slk {c : Comb} {s : Int} (h : ∀ n, slk c n ≤ s) : ∀ y ∈ sl c, y ≤ s := fun y hy => by
  obtain ⟨r, _, rfl⟩ := List.mem_map.mp hy
  exact h _
end PD

/-! PD48: spans for fractions -/
namespace PD
open PySem PySem.Spec PyProof.Rows L2 Evl
theorem slk_24 {c : Comb} (ok : c.Ok) : ∀ y ∈ sl c, y ≤ c.p - 1 := sl_slk fun n => by have := slk_lt ok n; omega
theorem Mean.le_span {v : Dv} (ok : v.Ok) {z arm t b : Int} (z0 : 0 < z) (m : Mean v [z, -z] arm t b) : t ≤ z * b ∧ (z - 46) * b ≤ t := by
  have h := m.spans ok z0 (slk_24 ok.1) (slk_24 ok.2)
  have p1 := ok.1.p24
  have p2 := ok.2.p24
  have b0 := m.b0
  refine ⟨h.1, Int.le_trans (Int.mul_le_mul_of_nonneg_right ?_ (by omega)) h.2⟩
  omega
end PD

/-! PD49: comprehensions over a tuple or a list that is met -/
namespace PD
open PySem PySem.Spec PyProof.Rows L2 Evl
section
variable {c : Cn} {K : PySem.W.Frag} {ds : DS} {pl : List D} {Φ : W → List D → Prop} {te : TE} {tt : TT} {tr : TA}
end
end PD

/-! PD50: math.lcm -/
namespace L2
open PySem PySem.Spec PyProof.Rows
section
variable {X : Cx}
def rLcm : List V → Hp → VK → Prop := fun vs H Q => ∃ a b : Int, vs = [.int a, .int b] ∧ a.natAbs < 2 ^ 64 ∧ b.natAbs < 2 ^ 64 ∧ Q (.int ((a.natAbs.lcm b.natAbs : Nat) : Int)) H
theorem cr_lcm : CallR X (.builtin "math.lcm") rLcm := by
  intro pins s σ H vs us Q I r h
  obtain ⟨a, b, rfl, ha, hb, q⟩ := h
  obtain ⟨t, u, rfl⟩ := Vals.int2 r
  exact PySem.W.mc_lcm ha hb fun _ => ⟨.int _, H, I.tok _, ⟨_, rfl⟩, q⟩
end
end L2
namespace PD
open PySem PySem.Spec PyProof.Rows L2 Evl
section
variable {c : Cn} {K : PySem.W.Frag} {ds : DS} {pl : List D} {Φ : W → List D → Prop}
theorem cb_lcm {a b : Int} (ha : a.natAbs < 2 ^ 64) (hb : b.natAbs < 2 ^ 64) (h : Φ (.d (.int ((Nat.lcm a.natAbs b.natAbs : Nat) : Int))) pl) : CbS c rLcm ds [.int a, .int b] pl Φ := fun G σ H vs hs f Q q => by
  obtain ⟨v, u, rfl, r1, r2⟩ := ra2 f
  cases r1
  cases r2
  exact ⟨a, b, rfl, ha, hb, q _ G H (.d _) pl hs (Ex.refl _) (R.int _) h⟩
end
end PD

/-! PD51: targets of any shape; a comprehension of two loops -/
namespace PD
open PySem PySem.Spec PyProof.Rows L2 Evl
def GA (c : Cn) (g : TG) (x : D) (u : DS → DS) : Prop := ∀ G σ H ds pl v, HS c G σ H ds pl → R G v x → ∀ Q : L2.St → Hp → Prop, (∀ σ', HS c G σ' H (u ds) pl → Q σ' H) → g v σ H Q
section
variable {c : Cn} {K : PySem.W.Frag} {ds : DS} {pl : List D} {t : TS} {E : EE} {Φ : W → List D → Prop} {te : TE} {tr tr1 : TA} {tt1 : TT}
theorem ga_name (j : Nat) (x : D) : GA c (gName j) x (fun ds => ds.set j (some (.d x))) := fun G σ H ds pl v hs r Q q => q _ (hs.set (i := j) (w := .d x) r fun xs z => by cases z)
theorem ga_tup3 {n : Nat} {g1 g2 g3 : TG} {x y z : D} {u1 u2 u3 : DS → DS} (hn : n = 3) (h1 : GA c g1 x u1) (h2 : GA c g2 y u2) (h3 : GA c g3 z u3) : GA c (gTup K n (gCons g1 (gCons g2 (gCons g3 gNil)))) (.tuple [x, y, z]) (fun ds => u3 (u2 (u1 ds))) := fun G σ H ds pl v hs r Q q => by
  subst hn
  cases r with
  | tup a b =>
    cases b with
    | cons r1 b =>
      cases b with
      | cons r2 b =>
        cases b with
        | cons r3 b =>
          cases b
          exact ⟨_, _, rfl, SqT.of (hs.sub _ _ a), rfl, _, _, rfl, h1 G σ H ds pl _ hs r1 _ fun σ1 hs1 => ⟨_, _, rfl, h2 G σ1 H _ pl _ hs1 r2 _ fun σ2 hs2 => ⟨_, _, rfl, h3 G σ2 H _ pl _ hs2 r3 _ fun σ3 hs3 => ⟨rfl, q σ3 hs3⟩⟩⟩⟩
theorem ws_forG {g : TG} {tl : TE} (u : D → DS → DS) (I : Nat → DS → List D → Prop) (xs : List D) (ga : ∀ x ∈ xs, GA c g x (u x)) (h : WE c tl ds pl (isD fun d p1 => d = .list xs ∧ I 0 ds p1))
    (hs : ∀ i x ds' pl', xs[i]? = some x → I i ds' pl' → WS c t (u x ds') pl' { nx := I (i + 1), ct := I (i + 1), bk := E.nx, rt := E.rt }) (hd : ∀ ds' pl', I xs.length ds' pl' → E.nx ds' pl') :
    WS c (tFor (iList K tl) g t) ds pl E := fun G σ H h0 D' f => h G σ H h0 _ fun v G1 H1 w p1 h1 e1 f1 g1 => by
  match w, f1, g1 with
  | .d d, f1, ⟨ed, g1⟩ =>
    subst ed
    cases f1 with
    | @lst a vs _ a1 b1 =>
    refine ⟨a, rfl, ⟨vs, SqL.of (h1.sub _ _ a1)⟩, for_list (K := K) (a := a) (xs := vs) (fun i σ' H' => ∃ G' ds' pl', HS c G' σ' H' ds' pl' ∧ Ex G1 G' ∧ I i ds' pl') ⟨G1, ds, p1, h1, Ex.refl _, g1⟩ ?_ ?_ ?_⟩
    · rintro i σ' H' _ ⟨G', ds', pl', h2, e2, _⟩
      exact SqL.of (h2.sub _ _ (e2 _ _ a1))
    · rintro i x σ' H' hx ⟨G', ds', pl', h2, e2, g2⟩
      obtain ⟨d, hd1, hd2⟩ := b1.get' hx
      refine ga d (List.mem_of_getElem? hd1) G' σ' H' ds' pl' x h2 (R.up hd2 e2) _ fun σ2 h5 => ?_
      refine hs i d ds' pl' hd1 g2 G' _ H' h5 _ ⟨?_, ?_, ?_, ?_⟩
      · exact fun G3 σ3 H3 ds3 pl3 h3 e3 g3 => ⟨G3, ds3, pl3, h3, e2.trans e3, g3⟩
      · exact fun v G3 σ3 H3 ds3 w3 pl3 h3 e3 q3 g3 => f.rt v G3 σ3 H3 ds3 w3 pl3 h3 ((e1.trans e2).trans e3) q3 g3
      · exact fun G3 σ3 H3 ds3 pl3 h3 e3 g3 => f.nx G3 σ3 H3 ds3 pl3 h3 ((e1.trans e2).trans e3) g3
      · exact fun G3 σ3 H3 ds3 pl3 h3 e3 g3 => ⟨G3, ds3, pl3, h3, e2.trans e3, g3⟩
    · rintro σ' H' ⟨G', ds', pl', h2, e2, g2⟩
      rw [b1.len] at g2
      exact f.nx G' σ' H' ds' pl' h2 (e1.trans e2) (hd _ _ g2)
end
/-! ### two loops -/
theorem wipe_comm {σ : L2.St} {j : Nat} {o : Option V} : ∀ {vs : List Nat}, j ∉ vs → L2.wipe (σ.set j o) vs = (L2.wipe σ vs).set j o
  | [], _ => rfl
  | v :: vs, h => by
    show (L2.wipe (σ.set j o) vs).set v none = ((L2.wipe σ vs).set v none).set j o
    rw [wipe_comm fun q => h (List.mem_cons_of_mem _ q), List.set_comm _ _ (fun e : j = v => h (e ▸ List.mem_cons_self))]
theorem wipe_in {σ : L2.St} {j : Nat} {o : Option V} : ∀ {vs : List Nat}, j ∈ vs → L2.wipe (σ.set j o) vs = L2.wipe σ vs
  | [], h => nomatch h
  | v :: vs, h => by
    show (L2.wipe (σ.set j o) vs).set v none = (L2.wipe σ vs).set v none
    by_cases e : j ∈ vs
    · rw [wipe_in e]
    · have ev : j = v := by
        rcases List.mem_cons.mp h with z | z
        · exact z
        · exact absurd z e
      rw [wipe_comm e, ev, List.set_set]
theorem wipe_sub {σ : L2.St} {vs : List Nat} : ∀ {ws : List Nat}, (∀ w ∈ ws, w ∈ vs) → L2.wipe (L2.wipe σ ws) vs = L2.wipe σ vs
  | [], _ => rfl
  | w :: ws, h => by
    show L2.wipe ((L2.wipe σ ws).set w none) vs = _
    rw [wipe_in (h w List.mem_cons_self), wipe_sub fun x hx => h x (List.mem_cons_of_mem _ hx)]
def Nod (ds : DS) : Prop := ∀ (j : Nat) (xs : List D), ds[j]? ≠ some (some (W.o xs))
theorem Nod.set {ds : DS} (h : Nod ds) (j : Nat) (x : D) : Nod (ds.set j (some (.d x))) := fun i xs q => by
  by_cases e : j = i
  · subst e
    have hlt := (List.getElem?_eq_some_iff.mp q).1
    rw [List.length_set] at hlt
    rw [List.getElem?_set_self hlt] at q
    cases q
  · rw [List.getElem?_set_ne e] at q
    exact h i xs q
theorem Nod.none {ds : DS} (h : Nod ds) (j : Nat) : Nod (ds.set j Option.none) := fun i xs q => by
  by_cases e : j = i
  · subst e
    have hlt := (List.getElem?_eq_some_iff.mp q).1
    rw [List.length_set] at hlt
    rw [List.getElem?_set_self hlt] at q
    cases q
  · rw [List.getElem?_set_ne e] at q
    exact h i xs q
theorem Nod.wipe {ds : DS} (h : Nod ds) : ∀ vs : List Nat, Nod (wipeD ds vs)
  | [] => h
  | v :: vs => (Nod.wipe h vs).none v
theorem Nod.df {c : Cn} {σ σ' : L2.St} {ds ds' : DS} {Dl : Addr} (h : Nod ds') (f : DF c σ ds Dl) : DF c σ' ds' Dl := ⟨f.h0, f.pin, f.pool, f.hd, fun i xs p q => absurd q (h i xs)⟩
section
variable {c : Cn} {K : PySem.W.Frag} {ds : DS} {pl : List D} {Φ : W → List D → Prop} {te : TE} {tr : TA} {tt1 : TT}
theorem we_lc2E {j1 j2 j3 j4 m0 : Nat} (J : Nat → Nat → List D → List D → Prop) (xs ys : List D) (no : Nod ds) (hm : ds[m0]? = some (some (.d (.list ys)))) (hm1 : m0 ∉ [j1, j2, j3, j4]) 
    (h : WA c tr ds pl fun zs p1 => zs = [.list xs] ∧ J 0 0 [] p1)
    (user : ∀ (i k : Nat) x y acc pl', xs[i]? = some x → ys[k]? = some y → J i k acc pl' → ∀ pin, WT { c with pin := pin } tt1 (((wipeD (((wipeD ds [j1, j2, j3, j4]).set j1 (some (.d (.int (i : Int))))).set j2 (some (.d x))) [j3, j4]).set j3 (some (.d (.int (k : Int))))).set j4 (some (.d y))) pl' fun b p2 =>
      if b = true then WE { c with pin := pin } te (((wipeD (((wipeD ds [j1, j2, j3, j4]).set j1 (some (.d (.int (i : Int))))).set j2 (some (.d x))) [j3, j4]).set j3 (some (.d (.int (k : Int))))).set j4 (some (.d y))) p2 (isD fun z p3 => acc.length < sizeLine ∧ J i (k + 1) (acc ++ [z]) p3) else J i (k + 1) acc p2)
    (next : ∀ i acc pl', J i ys.length acc pl' → J (i + 1) 0 acc pl')
    (hq : ∀ acc pl', J xs.length 0 acc pl' → Φ (.d (.list acc)) pl') :
    WE c (tLc2 (iEnum K tr) (gTup K 2 (gCons (gName j1) (gCons (gName j2) gNil))) tYes (iEnum K (tCons (tVar m0) tNil)) (gTup K 2 (gCons (gName j3) (gCons (gName j4) gNil))) tt1 te [j1, j2, j3, j4] [j3, j4]) ds pl Φ := fun G σ H h0 Q q => h G σ H h0 _ fun vs G1 H1 zs p1 h1 e1 f1 ⟨ez, g1⟩ => by
  subst ez
  obtain ⟨v, rfl, r1⟩ := ra1 f1
  cases r1 with
  | @lst a us1 _ a1 b1 =>
  refine ⟨a, us1, rfl, SqL.of (h1.sub _ _ a1), fun Dl hD => ?_⟩
  have f := df_new h1 hD
  refine ⟨fun i m H' => m = us1.length - i ∧ i ≤ us1.length ∧ PvC c σ ds G1 Dl (fun i => J i 0) i H', ⟨us1.length, by simp, Nat.zero_le _, pv_start (fun i => J i 0) h1 hD g1⟩, ?_⟩
  rintro i m H' ⟨rfl, hi, p⟩
  obtain ⟨G', pl', acc, us, h2, e2, hD2, ra, gD, hJ⟩ := id p
  have sq1 : SqL K H' a us1 := SqL.of (h2.sub _ _ (e2 _ _ a1))
  by_cases hlt : i < us1.length
  · refine .inr ⟨⟨us1, us1[i], sq1, by simp [hlt]⟩, PvC c σ ds G1 Dl (fun i => J i 0) (i + 1), fun H3 q => ⟨us1.length - (i + 1), by omega, rfl, hlt, q⟩, ?_⟩
    rintro x H3 ⟨T, x2, rfl, hT, rfl, y1⟩
    obtain ⟨d2, hd2, hr2⟩ := b1.get' (y1 us1 sq1)
    have n := h2.none_of hT
    have e3 : Ex G' (upd G' T (.tup [.int (i : Nat), x2])) := Ex.new n.1
    have hT2 := h2.newD (o := .tup [.int (i : Nat), x2]) hT
    have mem : ∀ w ∈ [j1, j2, j3, j4], w ∈ [j1, j2, j3, j4] := fun w hw => hw
    refine ⟨T, _, rfl, SqT.of upd_same, rfl, _, _, rfl, _, _, rfl, rfl, ?_, ?_⟩
    · rw [wipe_in (by simp), wipe_in (by simp), wipe_sub mem]
    unfold tYes
    dsimp only
    rw [if_pos rfl]
    obtain ⟨w, w1, w2⟩ := hT2.slots m0 _ hm
    have w2' : R _ w (.list ys) := w2
    cases w2' with
    | @lst a2 us2 _ c1 d1 =>
    refine ⟨.ref a2, ?_, a2, us2, rfl, SqL.of (hT2.sub _ _ c1), ?_⟩
    · have ne1 : j1 ≠ m0 := fun e => hm1 (e ▸ by simp)
      have ne2 : j2 ≠ m0 := fun e => hm1 (e ▸ by simp)
      rw [List.getElem?_set_ne ne2, List.getElem?_set_ne ne1, wipe_ne hm1]
      exact w1
    have gDT : (upd G' T (.tup [.int (i : Nat), x2])) Dl = none := by rw [upd_ne (ne_of_none hD2 hT)]; exact gD
    refine ⟨fun k m H'' => m = us2.length - k ∧ k ≤ us2.length ∧ PvC c σ ds (upd G' T (.tup [.int (i : Nat), x2])) Dl (J i) k H'', ⟨us2.length, by simp, Nat.zero_le _, _, pl', acc, us, hT2, Ex.refl _, by rw [upd_ne (ne_of_none hD2 hT)]; exact hD2, ra.up e3, gDT, hJ⟩, ?_⟩
    rintro k m H'' ⟨rfl, hk, p2⟩
    obtain ⟨G5, pl5, acc5, us5, h5, e5, hD5, ra5, gD5, hJ5⟩ := id p2
    have sq2 : SqL K H'' a2 us2 := SqL.of (h5.sub _ _ (e5 _ _ c1))
    by_cases hlt2 : k < us2.length
    · refine .inr ⟨⟨us2, us2[k], sq2, by simp [hlt2]⟩, PvC c σ ds (upd G' T (.tup [.int (i : Nat), x2])) Dl (J i) (k + 1), fun H3 q => ⟨us2.length - (k + 1), by omega, rfl, hlt2, q⟩, ?_⟩
      rintro y H6 ⟨T2, y2, rfl, hTT, rfl, y3⟩
      obtain ⟨dy, hdy, hry⟩ := d1.get' (y3 us2 sq2)
      have n2 := h5.none_of hTT
      have e6 : Ex G5 (upd G5 T2 (.tup [.int (k : Nat), y2])) := Ex.new n2.1
      refine ⟨T2, _, rfl, SqT.of upd_same, rfl, _, _, rfl, _, _, rfl, rfl, wipe_set2 _ j3 j4 _ y2, ?_⟩
      have hw0 := (((h5.newD (o := .tup [.int (k : Nat), y2]) hTT).wipe [j1, j2, j3, j4]).set (i := j1) (w := .d (.int (i : Int))) (R.int _) fun xs z => by cases z).set (i := j2) (w := .d d2) (R.up hr2 (e2.trans (e3.trans (e5.trans e6)))) fun xs z => by cases z
      have hw := ((hw0.wipe [j3, j4]).set (i := j3) (w := .d (.int (k : Int))) (R.int _) fun xs z => by cases z).set (i := j4) (w := .d dy) (R.up hry (e5.trans e6)) fun xs z => by cases z
      have nod := ((((((no.wipe [j1, j2, j3, j4]).set j1 (.int (i : Int))).set j2 d2).wipe [j3, j4]).set j3 (.int (k : Int))).set j4 dy)
      refine lc_turnG (J i) f (nod.df f) (fun i' xs' q => absurd q (no i' xs')) h5 hw e5 e6 (by rw [upd_ne (ne_of_none hD5 hTT)]; exact hD5) ?_ ra5 (fun pin => user i k d2 dy acc5 pl5 hd2 hdy hJ5 pin) hJ5
      rw [upd_ne (ne_of_none hD5 hTT)]
      exact gD5
    · have ek : k = us2.length := by omega
      subst ek
      have hJ6 : J i ys.length acc5 pl5 := by rw [← d1.len]; exact hJ5
      exact .inl ⟨⟨us2, sq2, Nat.le_refl _⟩, G5, pl5, acc5, us5, h5, (e2.trans e3).trans e5, hD5, ra5, gD5, next i acc5 pl5 hJ6⟩
  · have ei : i = us1.length := by omega
    subst ei
    rw [b1.len] at p
    exact .inl ⟨⟨us1, sq1, Nat.le_refl _⟩, pv_end f p hq fun v G' H' w pl' h2 e2 f2 g2 => q v G' H' w pl' h2 (e1.trans e2) f2 g2⟩
end
end PD

/-! PD52: bars that fit looks -/
namespace PD
open PySem PySem.Spec PyProof.Rows L2 Evl
section
variable {c : Cn} {K : PySem.W.Frag} {ds : DS} {pl : List D} {Φ : W → List D → Prop} {te : TE} {tt : TT} {j : Nat}
theorem we_lcLO {tl : TE} (J : Nat → List D → List D → Prop) (xs : List D) (hj : ∀ (xs : List D), ds[j]? ≠ some (some (W.o xs))) (h : WE c tl ds pl (isD fun d p1 => d = .list xs ∧ J 0 [] p1))
    (user : ∀ (i : Nat) x acc pl', xs[i]? = some x → J i acc pl' → ∀ pin, WT { c with pin := pin } tt ((wipeD ds [j]).set j (some (.d x))) pl' fun b p2 => if b = true then WE { c with pin := pin } te ((wipeD ds [j]).set j (some (.d x))) p2
      (isD fun y p3 => acc.length < sizeLine ∧ J (i + 1) (acc ++ [y]) p3) else J (i + 1) acc p2)
    (hq : ∀ acc pl', J xs.length acc pl' → Φ (.o acc) pl') : WE c (tLc (iList K tl) (gName j) tt te [j]) ds pl Φ := fun G σ H h0 Q q => h G σ H h0 _ fun v G1 H1 w p1 h1 e1 f1 g1 => by
  match w, f1, g1 with
  | .d d, f1, ⟨ed, g1⟩ =>
    subst ed
    cases f1 with
    | @lst a vs _ a1 b1 =>
    refine ⟨a, rfl, ⟨vs, SqL.of (h1.sub _ _ a1)⟩, fun Dl hD => ?_⟩
    have f := df_new h1 hD
    refine lc_list (K := K) (a := a) (xs := vs) (PvC c σ ds G1 Dl J) (pv_start J h1 hD g1) ?_ ?_ ?_
    · rintro i H' _ ⟨G', pl', acc, us, h2, e2, _⟩
      exact SqL.of (h2.sub _ _ (e2 _ _ a1))
    · intro i x H' hx p
      obtain ⟨d, hd1, hd2⟩ := b1.get' hx
      exact ⟨wipe_set σ j x, lc_turnD J f hj p (fun G' e => R.up hd2 e) fun acc pl' hJ pin => user i d acc pl' hd1 hJ pin⟩
    · intro H' p
      rw [b1.len] at p
      obtain ⟨G', pl', acc, us, h2, e2, hD2, ra, gD, hJ⟩ := p
      exact q (.ref Dl) G' H' (.o acc) pl' h2 (e1.trans e2) ⟨Dl, us, rfl, hD2, ra, gD, f.h0, f.pin, f.pool, f.hd⟩ (hq acc pl' hJ)
end
abbrev u2 (j1 j2 : Nat) : D → DS → DS := fun d ds => match d with
  | .tuple [x, y] => (ds.set j1 (some (.d x))).set j2 (some (.d y))
  | _ => ds
abbrev u3 (j1 j2 j3 : Nat) : D → DS → DS := fun d ds => match d with
  | .tuple [x, y, z] => ((ds.set j1 (some (.d x))).set j2 (some (.d y))).set j3 (some (.d z))
  | _ => ds
/-! ### starts -/
def rowL (v : Dv) (a : Nat) (n : Nat) : List (Int × Int) := ((List.range n).filter fun (l : Nat) => held v ((a : Int), (a : Int) - (l : Int))).map fun (l : Nat) => ((a : Int), (l : Int))
def startsN (v : Dv) (i : Nat) : List (Int × Int) := (List.range i).flatMap fun a => rowL v a v.2.p.toNat
abbrev startsL (v : Dv) : List (Int × Int) := startsN v v.1.p.toNat
theorem rowL_succ (v : Dv) (a n : Nat) : rowL v a (n + 1) = rowL v a n ++ (if held v ((a : Int), (a : Int) - (n : Int)) = true then [((a : Int), (n : Int))] else []) := by
  unfold rowL
  rw [List.range_succ, List.filter_append, List.map_append]
  by_cases h : held v ((a : Int), (a : Int) - (n : Int)) = true
  · rw [if_pos h, List.filter_cons_of_pos (p := fun (l : Nat) => held v ((a : Int), (a : Int) - (l : Int))) h]; rfl
  · rw [if_neg h, List.filter_cons_of_neg (p := fun (l : Nat) => held v ((a : Int), (a : Int) - (l : Int))) h]; rfl
theorem startsN_succ (v : Dv) (i : Nat) : startsN v (i + 1) = startsN v i ++ rowL v i v.2.p.toNat := by
  unfold startsN
  rw [List.range_succ, List.flatMap_append]
  simp
theorem rowL_len (v : Dv) (a n : Nat) : (rowL v a n).length ≤ n := by
  unfold rowL
  rw [List.length_map]
  exact Nat.le_trans (List.length_filter_le _ _) (by rw [List.length_range]; exact Nat.le_refl _)
theorem startsN_len (v : Dv) : ∀ i : Nat, (startsN v i).length ≤ i * v.2.p.toNat
  | 0 => Nat.zero_le _
  | i + 1 => by
    rw [startsN_succ, List.length_append, Nat.succ_mul]
    have := startsN_len v i
    have := rowL_len v i v.2.p.toNat
    omega
theorem startsN_in {v : Dv} {i : Nat} {st : Int × Int} (h : st ∈ startsN v i) : 0 ≤ st.1 ∧ st.1 < (i : Int) ∧ 0 ≤ st.2 ∧ st.2 < (v.2.p.toNat : Int) ∧ held v (st.1, st.1 - st.2) = true := by
  unfold startsN at h
  obtain ⟨a, ha, h⟩ := List.mem_flatMap.mp h
  unfold rowL at h
  obtain ⟨l, hl, rfl⟩ := List.mem_map.mp h
  have h1 := List.mem_range.mp ha
  obtain ⟨h2, h3⟩ := List.mem_filter.mp hl
  have h4 := List.mem_range.mp h2
  exact ⟨by show (0 : Int) ≤ (a : Int); omega, by show (a : Int) < (i : Int); omega, by show (0 : Int) ≤ (l : Int); omega, by show (l : Int) < _; omega, h3⟩
theorem startsL_len {v : Dv} (ok : v.Ok) : (startsL v).length ≤ 576 := by
  have := startsN_len v v.1.p.toNat
  have p1 := ok.1.p24
  have p2 := ok.2.p24
  have : v.1.p.toNat * v.2.p.toNat ≤ 24 * 24 := Nat.mul_le_mul (by omega) (by omega)
  show (startsN v v.1.p.toNat).length ≤ 576
  omega
theorem startsL_in {v : Dv} (ok : v.Ok) {st : Int × Int} (h : st ∈ startsL v) : 0 ≤ st.1 ∧ st.1 < 24 ∧ 0 ≤ st.2 ∧ st.2 < 24 ∧ held v (st.1, st.1 - st.2) = true := by
  have := startsN_in h
  have p1 := ok.1.p1
  have p2 := ok.2.p1
  have p3 := ok.1.p24
  have p4 := ok.2.p24
  exact ⟨this.1, by omega, this.2.2.1, by omega, this.2.2.2.2⟩
theorem slk_zero {c : Comb} (ok : c.Ok) (n : Int) : decide (slk c n = 0) = caught c n := by
  have sp := flo_spec ok n
  cases h : caught c n with
  | true =>
    have := flo_of ok h
    exact decide_eq_true (by unfold slk; omega)
  | false =>
    refine decide_eq_false fun z => ?_
    unfold slk at z
    have e : flo c n = n := by omega
    have := sp.2.1
    rw [e, h] at this
    cases this
/-! ### notes -/
def runN (v : Dv) : Sv → List (Int × Int) → Option Sv
  | s, [] => some s
  | s, q :: r => if (mv v s q.1).1 - s.1 = q.2 then runN v (mv v s q.1) r else none
theorem runN_plc {v : Dv} (ok : v.Ok) : ∀ (ns : List (Int × Int)) {s t : Sv}, plc v s = plc v t → (runN v s ns).isSome = (runN v t ns).isSome
  | [], _, _, _ => rfl
  | q :: r, s, t, h => by
    have e := mv_shift ok h q.1
    have e1 : (mv v t q.1).1 - t.1 = (mv v s q.1).1 - s.1 := by rw [e]; show (mv v s q.1).1 + (t.1 - s.1) - t.1 = _; omega
    show (if _ then runN v (mv v s q.1) r else none).isSome = (if _ then runN v (mv v t q.1) r else none).isSome
    rw [e1]
    by_cases z : (mv v s q.1).1 - s.1 = q.2
    · rw [if_pos z, if_pos z]
      exact runN_plc ok r (plc_shift h e)
    · rw [if_neg z, if_neg z]
abbrev Bar := (Int × Int) × Sv
def barD (b : Bar) : D := .tuple [Sv.d b.1, .int b.2.1, .int (lf b.2)]
def begun (st : Int × Int) : Bar := (st, (st.1, st.1 - st.2))
theorem barD_begun (st : Int × Int) : barD (begun st) = .tuple [Sv.d st, .int st.1, .int st.2] := by
  unfold barD begun
  show PyData.tuple [Sv.d st, .int st.1, .int (st.1 - (st.1 - st.2))] = _
  rw [show st.1 - (st.1 - st.2) = st.2 by omega]
def seenL (v : Dv) (bs : List Bar) (q : Int × Int) : List Bar := (bs.filter fun b => decide ((mv v b.2 q.1).1 - b.2.1 = q.2)).map fun b => (b.1, mv v b.2 q.1)
theorem seenL_len (v : Dv) (bs : List Bar) (q : Int × Int) : (seenL v bs q).length ≤ bs.length := by
  unfold seenL
  rw [List.length_map]
  exact List.length_filter_le _ _
theorem seenL_app (v : Dv) (bs cs : List Bar) (q : Int × Int) : seenL v (bs ++ cs) q = seenL v bs q ++ seenL v cs q := by
  unfold seenL
  rw [List.filter_append, List.map_append]
theorem seenL_yes (v : Dv) {b : Bar} {q : Int × Int} (h : (mv v b.2 q.1).1 - b.2.1 = q.2) : seenL v [b] q = [(b.1, mv v b.2 q.1)] := by
  unfold seenL
  rw [List.filter_cons_of_pos (p := fun b : Bar => decide ((mv v b.2 q.1).1 - b.2.1 = q.2)) (decide_eq_true h)]
  rfl
theorem seenL_no (v : Dv) {b : Bar} {q : Int × Int} (h : ¬ (mv v b.2 q.1).1 - b.2.1 = q.2) : seenL v [b] q = [] := by
  unfold seenL
  rw [List.filter_cons_of_neg (p := fun b : Bar => decide ((mv v b.2 q.1).1 - b.2.1 = q.2)) (by simpa using h)]
  rfl
def fitL (v : Dv) (ns : List (Int × Int)) : List Bar := ns.foldl (seenL v) ((startsL v).map begun)
theorem fit_run (v : Dv) : ∀ (ns : List (Int × Int)) (bs : List Bar), ns.foldl (seenL v) bs = bs.filterMap fun b => (runN v b.2 ns).map fun t => (b.1, t)
  | [], bs => by
    show bs = bs.filterMap fun b => some (b.1, b.2)
    exact (List.filterMap_some ..).symm
  | q :: r, bs => by
    show r.foldl (seenL v) (seenL v bs q) = _
    rw [fit_run v r]
    unfold seenL
    induction bs with
    | nil => rfl
    | cons b bs ih =>
      by_cases h : (mv v b.2 q.1).1 - b.2.1 = q.2
      · rw [List.filter_cons_of_pos (p := fun b : Bar => decide ((mv v b.2 q.1).1 - b.2.1 = q.2)) (decide_eq_true h), List.map_cons, List.filterMap_cons, List.filterMap_cons]
        have e : runN v b.2 (q :: r) = runN v (mv v b.2 q.1) r := if_pos h
        rw [e, ih]
      · rw [List.filter_cons_of_neg (p := fun b : Bar => decide ((mv v b.2 q.1).1 - b.2.1 = q.2)) (by simpa using h), List.filterMap_cons]
        have e : runN v b.2 (q :: r) = none := if_neg h
        rw [e, ih]
        rfl
theorem fit_starts (v : Dv) (ns : List (Int × Int)) : (fitL v ns).map (·.1) = (startsL v).filter fun st => (runN v (st.1, st.1 - st.2) ns).isSome := by
  unfold fitL
  rw [fit_run]
  generalize startsL v = ss
  induction ss with
  | nil => rfl
  | cons st ss ih =>
    rw [List.map_cons, List.filterMap_cons]
    cases h : runN v (st.1, st.1 - st.2) ns with
    | none =>
      have e : (runN v (begun st).2 ns).map (fun t => ((begun st).1, t)) = none := by
        show (runN v (st.1, st.1 - st.2) ns).map _ = none
        rw [h]; rfl
      rw [e, List.filter_cons_of_neg (by rw [h]; simp)]
      exact ih
    | some t =>
      have e : (runN v (begun st).2 ns).map (fun t => ((begun st).1, t)) = some (st, t) := by
        show (runN v (st.1, st.1 - st.2) ns).map _ = _
        rw [h]; rfl
      rw [e, List.filter_cons_of_pos (by rw [h]; rfl), List.map_cons, ih]
theorem fit_len {v : Dv} (ok : v.Ok) (ns : List (Int × Int)) : (fitL v ns).length ≤ 576 := by
  unfold fitL
  rw [fit_run]
  refine Nat.le_trans (List.length_filterMap_le _ _) ?_
  rw [List.length_map]
  exact startsL_len ok
theorem fitL_succ (v : Dv) (ns : List (Int × Int)) {i : Nat} {q : Int × Int} (h : ns[i]? = some q) : fitL v (ns.take (i + 1)) = seenL v (fitL v (ns.take i)) q := by
  unfold fitL
  rw [List.take_add_one, h, Option.toList_some, List.foldl_append]
  rfl
end PD

/-! PD53: there are starts -/
namespace PD
open PySem PySem.Spec PyProof.Rows L2 Evl
end PD

/-! PD54: is not None; sizes of lists of pairs; places behind looks -/
namespace PD
open PySem PySem.Spec PyProof.Rows L2 Evl
section
variable {c : Cn} {K : PySem.W.Frag} {ds : DS} {pl : List D} {Φ : W → List D → Prop}
theorem os_notN {d : D} {p2 : List D} (h : Φ (.d (.bool (!nonB d))) p2) : OpS c (fun x y H Q => y = .non ∧ Q (.bl (!decide (x = .non))) H) ds d .none p2 Φ := fun G σ H v u hs hv hu Q q => by
  have e : u = .non := by
    rcases hu with hu | ⟨p, vs, xs, rfl, e, _⟩
    · cases hu; rfl
    · cases e
  have e2 : decide (v = .non) = nonB d := by
    rcases hv with hv | ⟨p, vs, xs, rfl, rfl, _⟩
    · cases hv <;> rfl
    · rfl
  refine ⟨e, ?_⟩
  rw [e2]
  exact q _ G H (.d _) p2 hs (Ex.refl _) (R.bl _) h
end
/-! ### places -/
def stepS (v : Dv) (ss : List Sv) (q : Int × Int) : List Sv := (ss.filter fun s => decide ((mv v s q.1).1 - s.1 = q.2)).map fun s => mv v s q.1
end PD

/-! PD55: == [] -/
namespace PD
open PySem PySem.Spec PyProof.Rows L2 Evl
section
variable {c : Cn} {K : PySem.W.Frag} {ds : DS} {pl : List D} {Φ : W → List D → Prop}
end
theorem due_uniq {v : Dv} {ns : List (Int × Int)} {d e : D} (h1 : (d = .none ∧ ∀ i, i < ns.length → fitL v (ns.take (i + 1)) ≠ []) ∨ ∃ i : Nat, i < ns.length ∧ d = .int (i : Int) ∧ fitL v (ns.take (i + 1)) = [] ∧ ∀ j, j < i → fitL v (ns.take (j + 1)) ≠ [])
    (h2 : (e = .none ∧ ∀ i, i < ns.length → fitL v (ns.take (i + 1)) ≠ []) ∨ ∃ i : Nat, i < ns.length ∧ e = .int (i : Int) ∧ fitL v (ns.take (i + 1)) = [] ∧ ∀ j, j < i → fitL v (ns.take (j + 1)) ≠ []) : e = d := by
  rcases h1 with ⟨rfl, a⟩ | ⟨i, hi, rfl, zi, lo⟩
  · rcases h2 with ⟨rfl, _⟩ | ⟨j, hj, rfl, zj, _⟩
    · rfl
    · exact absurd zj (a j hj)
  · rcases h2 with ⟨rfl, b⟩ | ⟨j, hj, rfl, zj, lo2⟩
    · exact absurd zi (b i hi)
    · have : i = j := by
        rcases Nat.lt_trichotomy i j with z | z | z
        · exact absurd zi (lo2 i z)
        · exact z
        · exact absurd zj (lo j z)
      rw [this]
end PD

/-! PD56: rows of spans; joined tuples; the script compared; a pool made in a call -/
namespace PD
open PySem PySem.Spec PyProof.Rows L2 Evl
theorem com_uniq {v : Dv} {L M : Int} (c : Com v L) (lc : ∀ x : Int, x % v.1.p = 0 → x % v.2.p = 0 → x % L = 0) (d : Com v M) (ld : ∀ x : Int, x % v.1.p = 0 → x % v.2.p = 0 → x % M = 0) : L = M := by
  have h1 := lc M d.d1 d.d2
  have h2 := ld L c.d1 c.d2
  have a := Int.le_of_emod_eq_zero' d.pos c.pos h1
  have b := Int.le_of_emod_eq_zero' c.pos d.pos h2
  omega
theorem eqv_two (a b c d : Int) : PyData.eqv (.tuple [.int a, .int b]) (.tuple [.int c, .int d]) = decide ((a, b) = (c, d)) := by
  have e : PyData.eqv (.tuple [.int a, .int b]) (.tuple [.int c, .int d]) = ((a == c) && ((b == d) && true)) := rfl
  rw [e]
  by_cases h1 : a = c <;> by_cases h2 : b = d <;> simp [h1, h2]
noncomputable def mOf (v : Dv) (arm z : Int) : Int × Int := by
  classical exact if h : ∃ q : Int × Int, Mean v [z, -z] arm q.1 q.2 then Classical.choose h else (0, 1)
theorem mOf_mean {v : Dv} (ok : v.Ok) (arm z : Int) : Mean v [z, -z] arm (mOf v arm z).1 (mOf v arm z).2 := by
  obtain ⟨t, b, m⟩ := mean_ex ok [z, -z] arm
  have h : ∃ q : Int × Int, Mean v [z, -z] arm q.1 q.2 := ⟨(t, b), m⟩
  unfold mOf
  rw [dif_pos h]
  exact Classical.choose_spec h
theorem mOf_eq {v : Dv} (ok : v.Ok) {arm z t b : Int} (m : Mean v [z, -z] arm t b) : (t, b) = mOf v arm z := by
  obtain ⟨e1, e2⟩ := m.uniq ok (mOf_mean ok arm z)
  rw [e1, e2]
noncomputable def rowsF (v : Dv) (arm : Int) : Nat → List (Int × Int × Int) × (Int × Int)
  | 0 => ([], (0, 1))
  | n + 1 => if mOf v arm ((n : Int) + 1) = (rowsF v arm n).2 then rowsF v arm n else ((rowsF v arm n).1 ++ [((n : Int) + 1, mOf v arm ((n : Int) + 1))], mOf v arm ((n : Int) + 1))
theorem rowsF_no {v : Dv} {arm : Int} {n : Nat} (h : mOf v arm ((n : Int) + 1) = (rowsF v arm n).2) : rowsF v arm (n + 1) = rowsF v arm n := if_pos h
theorem rowsF_yes {v : Dv} {arm : Int} {n : Nat} (h : ¬ mOf v arm ((n : Int) + 1) = (rowsF v arm n).2) : rowsF v arm (n + 1) = ((rowsF v arm n).1 ++ [((n : Int) + 1, mOf v arm ((n : Int) + 1))], mOf v arm ((n : Int) + 1)) := if_neg h
theorem rowsF_len (v : Dv) (arm : Int) : ∀ n : Nat, (rowsF v arm n).1.length ≤ n
  | 0 => Nat.le_refl _
  | n + 1 => by
    have := rowsF_len v arm n
    by_cases h : mOf v arm ((n : Int) + 1) = (rowsF v arm n).2
    · rw [rowsF_no h]; omega
    · rw [rowsF_yes h, List.length_append]
      exact Nat.succ_le_succ this
abbrev rowD (q : Int × Int × Int) : D := .tuple [.int q.1, .int q.2.1, .int q.2.2]
theorem rowsF_in {v : Dv} (ok : v.Ok) {arm : Int} : ∀ (n : Nat), ∀ q ∈ (rowsF v arm n).1, 1 ≤ q.1 ∧ q.1 ≤ (n : Int) ∧ Mean v [q.1, -q.1] arm q.2.1 q.2.2
  | 0, q, h => nomatch h
  | n + 1, q, h => by
    by_cases e : mOf v arm ((n : Int) + 1) = (rowsF v arm n).2
    · rw [rowsF_no e] at h
      have := rowsF_in ok n q h
      exact ⟨this.1, by omega, this.2.2⟩
    · rw [rowsF_yes e] at h
      rcases List.mem_append.mp h with z | z
      · have := rowsF_in ok n q z
        exact ⟨this.1, by omega, this.2.2⟩
      · rw [List.mem_singleton.mp z]
        exact ⟨by show (1 : Int) ≤ (n : Int) + 1; omega, by show (n : Int) + 1 ≤ _; omega, mOf_mean ok arm _⟩
section
variable {c : Cn} {K : PySem.W.Frag} {ds : DS} {pl : List D} {Φ : W → List D → Prop} {ta tb te : TE} {tr : TA} {E : EE}
/-! ### the script compared -/
theorem ints_lay : ∀ ns : List Int, PyData.canLayAll0 (ns.map PyData.int) = true
  | [] => rfl
  | n :: ns => by
    rw [List.map_cons]
    show (PyData.canLay0 (.int n) && PyData.canLayAll0 (ns.map PyData.int)) = true
    rw [ints_lay ns]
    rfl
theorem ints_depth : ∀ ns : List Int, PyData.depthAll (ns.map PyData.int) = 0
  | [] => rfl
  | n :: ns => by
    rw [List.map_cons]
    show max (PyData.depth (.int n)) (PyData.depthAll (ns.map PyData.int)) = 0
    rw [ints_depth ns]
    rfl
theorem ints_shaped (ns : List Int) : SeqAt.shaped (.list (ns.map PyData.int)) = true := by
  unfold SeqAt.shaped
  have h1 : PyData.canLay0 (.list (ns.map PyData.int)) = true := by simpa only [PyData.canLay0] using ints_lay ns
  have h2 : PyData.depth (.list (ns.map PyData.int)) ≤ 64 := by
    simp only [PyData.depth, ints_depth]
    decide
  rw [h1, decide_eq_true h2]
  rfl
/-! ### f(mk(script, e), ..) -/
end
end PD

/-! PD57: how many spans have rows -/
namespace PD
open PySem PySem.Spec PyProof.Rows L2 Evl
def lcmV (v : Dv) : Int := ((Nat.lcm v.1.p.natAbs v.2.p.natAbs : Nat) : Int)
def spanN (v : Dv) : Nat := (lcmV v + max v.1.p v.2.p).toNat
theorem com_lcmV {v : Dv} (ok : v.Ok) : Com v (lcmV v) ∧ ∀ x : Int, x % v.1.p = 0 → x % v.2.p = 0 → x % lcmV v = 0 := by
  obtain ⟨_, _, e, cm, lc⟩ := com_quot ok
  rw [e] at cm lc
  exact ⟨cm, lc⟩
theorem spanN_eq {v : Dv} (ok : v.Ok) {L : Int} (c : Com v L) (lc : ∀ x : Int, x % v.1.p = 0 → x % v.2.p = 0 → x % L = 0) : L + max v.1.p v.2.p = (spanN v : Int) ∧ spanN v ≤ 600 := by
  obtain ⟨d, ld⟩ := com_lcmV ok
  have e := com_uniq c lc d ld
  have p0 := ok.1.p1
  have p1 := ok.1.p24
  have p2 := ok.2.p24
  have L0 := d.pos
  have L5 := d.le
  unfold spanN
  omega
end PD

/-! PD58: rows of two written devices -/
namespace PD
open PySem PySem.Spec PyProof.Rows L2 Evl
def rowsC (M : List (Int × Int)) : Nat → List (Int × Int × Int) × (Int × Int)
  | 0 => ([], (0, 1))
  | n + 1 => if M.getD n (0, 1) = (rowsC M n).2 then rowsC M n else ((rowsC M n).1 ++ [((n : Int) + 1, M.getD n (0, 1))], M.getD n (0, 1))
def cycB (v : Dv) (z : Int) (n j : Nat) (m : Int × Int) : Bool :=
  decide (j < n) && decide (plc v (rp v [z, -z] (0, 0) j) = plc v (rp v [z, -z] (0, 0) n)) && decide (∀ k, k < n → ∀ i, i < k → plc v (rp v [z, -z] (0, 0) i) ≠ plc v (rp v [z, -z] (0, 0) k)) &&
  decide ((rp v [z, -z] (0, 0) n).1 - (rp v [z, -z] (0, 0) j).1 = m.1 * (Nat.gcd ((rp v [z, -z] (0, 0) n).1 - (rp v [z, -z] (0, 0) j).1).natAbs ((n : Int) - (j : Int)).natAbs : Nat) ∧ (n : Int) - (j : Int) = m.2 * (Nat.gcd ((rp v [z, -z] (0, 0) n).1 - (rp v [z, -z] (0, 0) j).1).natAbs ((n : Int) - (j : Int)).natAbs : Nat))
abbrev c24x : Comb := ⟨24, [0, 7, 8]⟩
abbrev c23x : Comb := ⟨23, [5, 11]⟩
end PD

/-! PD59: two bars over one hand; places of three numbers in a dict -/
namespace PD
open PySem PySem.Spec PyProof.Rows L2 Evl
section
variable {v : Dv} {ms : List Int} {palm : Int}
def hx (v : Dv) (ms : List Int) (palm : Int) (x : Int) (i : Nat) : Int := (rp v ms (x, palm) i).1
def gp (v : Dv) (ms : List Int) (palm x y : Int) (i : Nat) : Int := hx v ms palm y i - hx v ms palm x i
theorem hx_eta (s0 : ms.sum = 0) (x : Int) (i : Nat) : rp v ms (x, palm) i = (hx v ms palm x i, palm) := by
  ext
  · rfl
  · show (rp v ms (x, palm) i).2 = palm
    rw [rp_hand, s0, Int.mul_zero, Int.add_zero]
def kyT (v : Dv) (ms : List Int) (palm x y : Int) (i : Nat) : Int × Int × Int := (hx v ms palm x i % v.1.p, (hx v ms palm x i - palm) % v.2.p, gp v ms palm x y i)
def JR (v : Dv) (ms : List Int) (palm x y : Int) (d : D) : Prop := (d = .none ∧ ∀ n, gp v ms palm x y n ≠ 0) ∨ ∃ n : Nat, d = .int (n : Int) ∧ n ≤ 332352 ∧ gp v ms palm x y n = 0 ∧ ∀ m, m < n → gp v ms palm x y m ≠ 0
end
/-! ### a dict of places -/
abbrev pk3 (q : Int × Int × Int) : List Key := [.inl q.1, .inl q.2.1, .inl q.2.2]
abbrev triD (q : Int × Int × Int) : D := .tuple [.int q.1, .int q.2.1, .int q.2.2]
def kv3 (qs : List (Int × Int × Int)) : List (List Key × V) := qs.map fun q => (pk3 q, V.bl true)
section
variable {c : Cn} {K : PySem.W.Frag} {ds : DS} {pl : List D} {t u body : TS} {D' : Ends} {G0 : Hp} {E : EE} {Φ : W → List D → Prop} {tt : TT}
end
end PD

/-! PD60: a stock (a pool with a greater number), the script cut, a list repeated -/
namespace PD
open PySem PySem.Spec PyProof.Rows L2 Evl
def Qk (n : Nat) (pl : List D) : Prop := ∃ a b c : Int, pl = [.int a, .int b, .int c] ∧ 0 ≤ a ∧ 0 ≤ b ∧ b < 2 ^ 130 ∧ 0 ≤ c ∧ c ≤ n
def poolQ {A : Type} (L : Nat) (enc : A → List D) (pre : A → Prop) (B : A → Nat) (post : A → D → Prop) : List D → List D → (D → List D → Prop) → Prop := fun pl ds k => ∃ (a : A) (n : Nat), ds = enc a ∧ pre a ∧ Qk n pl ∧ n < L ∧ ∀ d pl', post a d → Qk (n + B a) pl' → k d pl'
section
variable {c : Cn} {K : PySem.W.Frag} {ds : DS} {pl : List D} {Φ : W → List D → Prop} {tr : TA} {te ta tb : TE} {E : XK} {A : Type} {enc : A → List D} {pre : A → Prop} {B : A → Nat} {post : A → D → Prop} {L : Nat}
abbrev drawQ := poolQ 9000000 (fun t : Int => [.int t]) (fun t => 0 < t ∧ t < (2 : Int) ^ 200) (fun _ => 1) (fun t d => ∃ v, d = .int v ∧ 0 ≤ v ∧ v < t)
theorem ws_mulO {i : Nat} {En : EE} (h : WE c ta ds pl (isD fun d p1 => WE c tb ds p1 (isI fun k p2 => ∃ (xs : List D) (m : Nat), d = .list xs ∧ k = (m : Int) ∧ m ≤ 1000 ∧ xs.length * m ≤ sizeLine ∧ En.nx (ds.set i (some (.o (repD xs m)))) p2))) : WS c (tAsg (tOp rMulU ta tb) (gName i)) ds pl En := fun G σ H hs D' f => h G σ H hs _ fun v G1 H1 w p1 h1 e1 f1 g1 => by
  match w, f1, g1 with
  | .d d, f1, g1 =>
    refine g1 G1 σ H1 h1 _ fun u G2 H2 w2 p2 h2 e2 f2 g2 => ?_
    match w2, f2, g2 with
    | .d (.int k), f2, ⟨xs, m, ed, ek, hm, hl, g3⟩ =>
      subst ed ek
      cases f2
      have f1' : R G1 v (.list xs) := f1
      cases f1' with
      | @lst p vs _ a b =>
      refine .inr ⟨p, (m : Int), vs, rfl, rfl, h2.sub _ _ (e2 _ _ a), by omega, by omega, by rw [Int.toNat_natCast, b.len]; exact hl, fun l hln => ?_⟩
      rw [Int.toNat_natCast]
      exact f.nx G2 _ _ _ p2 (h2.newO hln ((b.rep m).up e2) i) (e1.trans e2) g3
end
/-! ### a def that makes a stock from the script -/
def spMk1 (K : PySem.W.Frag) (F : List Int → (List D → Prop) → Prop) : Sp := fun vs H Q _ => ∃ G a ns, vs = [.ref a] ∧ Ex G H ∧ SqL K H a (ns.map V.int) ∧ F ns fun xs => ∀ p us G' H', Ex H H' → Ex G' H' → Ex G G' → (∀ a o, H a = some o → G a = none → G' a = none) → H p = none → G' p = none →
  H' p = some (.lst us) → RA G' us xs → Q (.ref p) H'
section
variable {P : Program} {w : World} {K : PySem.W.Frag} {mg : Str → Option Value} {base : Heap} {k : Nat} {f : Addr} {fd : FuncData} {ps : List Str}
end
section
variable {c : Cn} {K : PySem.W.Frag} {ds : DS} {E : XK}
end
end PD

/-! PD61: the greatest heights at each hand -/
namespace PD
open PySem PySem.Spec PyProof.Rows L2 Evl
abbrev OI := Option Int
def optI : OI → D
  | some x => .int x
  | none => .none
theorem nonB_opt (o : OI) : nonB (optI o) = o.isNone := by cases o <;> rfl
def updG (best : List OI) (g : Nat) (r : Int) : List OI := match best[g]? with
  | some (some x) => if x < r then best.set g (some r) else best
  | some none => best.set g (some r)
  | none => best
def reachH (v : Dv) (height : Int) (hand goal : Nat) : Int := if goal < hand then height - min ((hand : Int) - (goal : Int)) (slk v.1 height) else height + max ((goal : Int) - (hand : Int) - slk v.2 (height - (hand : Int))) 0
def innerF (v : Dv) (best : List OI) (hand : Nat) (h : Int) (n : Nat) : List OI := (List.range n).foldl (fun b g => updG b g (reachH v h hand g)) best
def turnF (v : Dv) (tops : List OI) (b : List OI) (hd : Nat) : List OI := match tops[hd]? with
  | some (some h) => innerF v b hd h tops.length
  | _ => b
def moreF (v : Dv) (tops : List OI) (n : Nat) : List OI := (List.range n).foldl (turnF v tops) tops
def more (v : Dv) (tops : List OI) : List OI := moreF v tops tops.length
def itT (v : Dv) (tops : List OI) : Nat → List OI
  | 0 => tops
  | n + 1 => more v (itT v tops n)
theorem innerF_succ (v : Dv) (best : List OI) (hand : Nat) (h : Int) (n : Nat) : innerF v best hand h (n + 1) = updG (innerF v best hand h n) n (reachH v h hand n) := by
  unfold innerF
  rw [List.range_succ, List.foldl_append]
  rfl
theorem moreF_succ (v : Dv) (tops : List OI) (n : Nat) : moreF v tops (n + 1) = turnF v tops (moreF v tops n) n := by
  unfold moreF
  rw [List.range_succ, List.foldl_append]
  rfl
theorem updG_len (best : List OI) (g : Nat) (r : Int) : (updG best g r).length = best.length := by
  unfold updG
  split
  · split
    · rw [List.length_set]
    · rfl
  · rw [List.length_set]
  · rfl
theorem innerF_len (v : Dv) (best : List OI) (hand : Nat) (h : Int) : ∀ n : Nat, (innerF v best hand h n).length = best.length
  | 0 => rfl
  | n + 1 => by rw [innerF_succ, updG_len, innerF_len v best hand h n]
theorem turnF_len (v : Dv) (tops b : List OI) (hd : Nat) : (turnF v tops b hd).length = b.length := by
  unfold turnF
  split
  · exact innerF_len ..
  · rfl
theorem moreF_len (v : Dv) (tops : List OI) : ∀ n : Nat, (moreF v tops n).length = tops.length
  | 0 => rfl
  | n + 1 => by rw [moreF_succ, turnF_len, moreF_len v tops n]
theorem more_len (v : Dv) (tops : List OI) : (more v tops).length = tops.length := moreF_len ..
theorem itT_len (v : Dv) (tops : List OI) : ∀ n : Nat, (itT v tops n).length = tops.length
  | 0 => rfl
  | n + 1 => by show (more v (itT v tops n)).length = _; rw [more_len, itT_len v tops n]
def Ge (b tops : List OI) : Prop := ∀ (g : Nat) (h : Int), tops[g]? = some (some h) → ∃ x, b[g]? = some (some x) ∧ h ≤ x
theorem Ge.refl (tops : List OI) : Ge tops tops := fun g h e => ⟨h, e, Int.le_refl _⟩
theorem Ge.updG {b tops : List OI} (G : Ge b tops) (g : Nat) (r : Int) : Ge (PD.updG b g r) tops := fun g2 h e => by
  obtain ⟨x, e1, e2⟩ := G g2 h e
  unfold PD.updG
  by_cases z : g = g2
  · subst z
    rw [e1]
    show ∃ y, (if x < r then b.set g (some r) else b)[g]? = _ ∧ _
    by_cases q : x < r
    · rw [if_pos q, List.getElem?_set_self (List.getElem?_eq_some_iff.mp e1).1]
      exact ⟨r, rfl, by omega⟩
    · rw [if_neg q]
      exact ⟨x, e1, e2⟩
  · split
    · split
      · rw [List.getElem?_set_ne z]; exact ⟨x, e1, e2⟩
      · exact ⟨x, e1, e2⟩
    · rw [List.getElem?_set_ne z]; exact ⟨x, e1, e2⟩
    · exact ⟨x, e1, e2⟩
theorem Ge.innerF {b tops : List OI} (G : Ge b tops) (v : Dv) (hand : Nat) (h : Int) : ∀ n : Nat, Ge (PD.innerF v b hand h n) tops
  | 0 => G
  | n + 1 => by rw [innerF_succ]; exact (Ge.innerF G v hand h n).updG _ _
theorem Ge.moreF (v : Dv) (tops : List OI) : ∀ n : Nat, Ge (PD.moreF v tops n) tops
  | 0 => Ge.refl tops
  | n + 1 => by
    rw [moreF_succ]
    unfold turnF
    split
    · exact (Ge.moreF v tops n).innerF v _ _ _
    · exact Ge.moreF v tops n
def Bd (b : List OI) (B : Nat) : Prop := ∀ (g : Nat) (h : Int), b[g]? = some (some h) → h.natAbs ≤ B
theorem Ge.itT (v : Dv) (tops : List OI) : ∀ n : Nat, Ge (PD.itT v tops n) tops
  | 0 => Ge.refl tops
  | n + 1 => fun g h e => by
    obtain ⟨x, e1, e2⟩ := Ge.itT v tops n g h e
    obtain ⟨y, e3, e4⟩ := Ge.moreF v (PD.itT v tops n) (PD.itT v tops n).length g x e1
    exact ⟨y, e3, by omega⟩
/-! ### shifted -/
def upT (s : Int) (tops : List OI) : List OI := tops.map fun o => o.map (· + s)
/-! ### begun -/
def startT (reach hand : Nat) (height : Int) : List OI := (List.replicate (reach + 1) none).set hand (some height)
theorem startT_len (reach hand : Nat) (height : Int) : (startT reach hand height).length = reach + 1 := by unfold startT; rw [List.length_set, List.length_replicate]
theorem startT_get {reach hand : Nat} {height : Int} {g : Nat} (hg : g ≤ reach) : (startT reach hand height)[g]? = some (if g = hand then some height else none) := by
  unfold startT
  by_cases z : g = hand
  · subst z
    rw [if_pos rfl, List.getElem?_set_self (by rw [List.length_replicate]; omega)]
  · rw [if_neg z, List.getElem?_set_ne (Ne.symm z), List.getElem?_replicate, if_pos (by omega)]
theorem tops_ne {v : Dv} {reach hand : Nat} {height : Int} (hh : hand ≤ reach) (n : Nat) : (itT v (startT reach hand height) n).filterMap id ≠ [] := fun z => by
  obtain ⟨x, e, _⟩ := Ge.itT v (startT reach hand height) n hand height (by rw [startT_get hh, if_pos rfl])
  have : x ∈ (itT v (startT reach hand height) n).filterMap id := List.mem_filterMap.mpr ⟨some x, List.mem_of_getElem? e, rfl⟩
  rw [z] at this
  cases this
end PD

/-! PD62: greatest heights, told by a law -/
namespace PD
open PySem PySem.Spec PyProof.Rows L2 Evl
abbrev offD (v : Dv) : D := .list [.list ((sl v.1).map PyData.int), .list ((sl v.2).map PyData.int)]
theorem caught_up {c : Comb} (n k : Int) : caught c (n + c.p * k) = caught c n := by
  unfold caught
  rw [Int.add_mul_emod_self_left]
theorem held_up {v : Dv} {s a b : Int} (h1 : s = v.1.p * a) (h2 : s = v.2.p * b) {t : Sv} (h : held v t = true) : held v (t.1 + s, t.2) = true := by
  unfold held at h ⊢
  have e1 : caught v.1 (t.1 + s) = caught v.1 t.1 := by rw [h1]; exact caught_up _ _
  have e2 : caught v.2 (t.1 + s - t.2) = caught v.2 (t.1 - t.2) := by
    rw [h2, show t.1 + v.2.p * b - t.2 = t.1 - t.2 + v.2.p * b by omega]; exact caught_up _ _
  show (caught v.1 (t.1 + s) || caught v.2 (t.1 + s - t.2)) = true
  rw [e1, e2]
  exact h
theorem flo_near {c : Comb} (ok : c.Ok) (n : Int) : flo c n ≤ n ∧ n < flo c n + 24 := by
  have h1 := slk_nn ok n
  have h2 := slk_lt ok n
  have h3 := ok.p24
  unfold slk at h1 h2
  omega
def vOne : Dv := (⟨1, [0]⟩, ⟨1, [0]⟩)
def vTwo : Dv := (⟨24, [0, 7]⟩, ⟨23, [1, 12]⟩)
end PD

/-! PD63: the script still read behind a stock made -/
namespace PD
open PySem PySem.Spec PyProof.Rows L2 Evl
def Scq (K : PySem.W.Frag) (c : Cn) (a : Addr) (ns : List Int) : Prop := SqL K c.H0 a (ns.map V.int) ∧ (Rd c.H0 a (.lst (ns.map V.int)) → c.pool ≠ some a)
section
variable {c : Cn} {K : PySem.W.Frag} {ds : DS} {pl : List D} {Φ : W → List D → Prop} {E : XK}
end
end PD

/-! PD64: a dict of numbers made by a comprehension, handed back; its keys gone through -/
namespace PD
open PySem PySem.Spec PyProof.Rows L2 Evl
def vsI (tb : List (Int × Int)) : List (Key × V) := tb.map fun e => (.inl e.1, .int e.2)
theorem vsI_app (tb : List (Int × Int)) (k x : Int) : vsI (tb ++ [(k, x)]) = vsI tb ++ [(.inl k, .int x)] := by unfold vsI; rw [List.map_append]; rfl
theorem vsI_len (tb : List (Int × Int)) : (vsI tb).length = tb.length := by unfold vsI; rw [List.length_map]
theorem vsI_none {k : Int} : ∀ {tb : List (Int × Int)}, (∀ e ∈ tb, e.1 ≠ k) → valV (vsI tb) (.inl k) = none
  | [], _ => rfl
  | e :: tb, h => by
    show valV ((.inl e.1, .int e.2) :: vsI tb) (.inl k) = none
    rw [valV_cons', if_neg (fun z => h e List.mem_cons_self (Sum.inl.inj z))]
    exact vsI_none fun x hx => h x (List.mem_cons_of_mem _ hx)
theorem vsI_some {k x : Int} : ∀ {tb : List (Int × Int)}, (tb.map (·.1)).Nodup → (k, x) ∈ tb → valV (vsI tb) (.inl k) = some (.int x)
  | [], _, h => nomatch h
  | e :: tb, nd, h => by
    show valV ((.inl e.1, .int e.2) :: vsI tb) (.inl k) = _
    rw [valV_cons']
    rcases List.mem_cons.mp h with z | z
    · rw [← z, if_pos rfl]
    · rw [List.map_cons, List.nodup_cons] at nd
      rw [if_neg fun q => nd.1 (by rw [Sum.inl.inj q]; exact List.mem_map.mpr ⟨_, z, rfl⟩)]
      exact vsI_some nd.2 z
section
variable {c : Cn} {K : PySem.W.Frag} {ds : DS} {pl : List D} {D' : Ends} {G0 G H : Hp} {σ : L2.St} {E : EE} {Φ : W → List D → Prop} {te tk tv : TE} {tt : TT} {tr : TA} {j : Nat}
theorem HS.backN (no : Nod ds) (h : HS c G σ H ds pl) {c3 : Cn} {G3 H3 : Hp} {σ2 : L2.St} {ds2 : DS} {p3 : List D} (h3 : HS c3 G3 σ2 H3 ds2 p3) (e : Ex G G3) : HS c3 G3 σ H3 ds p3 :=
  ⟨h3.sub, h3.gh, h3.gq, h3.gn, h3.keep, h3.pl, h3.pin, h3.hid, h.len, fun i w q => by
    obtain ⟨v, e1, e2⟩ := h.slots i w q
    refine ⟨v, e1, ?_⟩
    cases w with
    | d x => exact R.up e2 e
    | v x => exact e2
    | o xs => exact absurd q (no i xs), fun i j p xs ys q1 => absurd q1 (no i xs)⟩
abbrev tbF (f : Int → Int) (xs : List Int) : List (Int × Int) := xs.map fun x => (x, f x)
theorem wsk_retDc {tl : TE} (xs : List Int) (f : Int → Int) (nd : xs.Nodup) (hl : xs.length < sizeLine) (no : Nod ds) (hj : j < ds.length) (hc : c.pool = none)
    (h : WE c tl ds pl (isD fun d p1 => d = .list (xs.map PyData.int) ∧ p1 = pl))
    (step : ∀ x, x ∈ xs → ∀ P, Fresh c P → WE (c.pinP P) tv ((wipeD ds [j]).set j (some (.d (.int x)))) pl fun w p1 => w = .d (.int (f x)) ∧ p1 = pl)
    (hk : ∀ p H', Ex c.H0 H' → Ex (one p (.dK (vsI (tbF f xs)))) H' → c.H0 p = none → D'.rt (.ref p) H') :
    WSK c (tRet (tDc (iList K tl) (gName j) tYes (tVar j) tv [j])) ds pl D' G0 := fun G σ H hs e => by
  refine h G σ H hs _ ?_
  rintro v G1 H1 w p1 h1 e1 f1 g1
  match w, f1, g1 with
  | .d d, f1, ⟨ed, ep⟩ =>
    subst ed
    subst ep
    cases f1 with
    | @lst a vs _ a1 b1 =>
    have evs : vs = xs.map V.int := b1.ints
    subst evs
    refine ⟨a, rfl, ⟨_, SqL.of (h1.sub _ _ a1)⟩, fun Dl hD => ?_⟩
    have n1 := h1.none_of hD
    have F0 : ∀ o, Fresh c (one Dl o) := fun o b u q => by
      obtain ⟨rfl, rfl⟩ := one_some q
      exact ⟨n1.2.2.2.2, n1.2.2.1, n1.2.1, n1.2.2.2.1⟩
    refine ⟨fun i m H' => m = xs.length - i ∧ i ≤ xs.length ∧ ∃ G', HS (c.pinP (one Dl (.dK (vsI (tbF f (xs.take i)))))) G' σ H' ds p1 ∧ Ex G1 G', ⟨xs.length, by simp, Nat.zero_le _, G1, h1.pinNew (Ex.new hD) (fun b u q => by
      obtain ⟨rfl, rfl⟩ := one_some q
      exact ⟨upd_same, hD⟩), Ex.refl _⟩, ?_⟩
    rintro i m H' ⟨rfl, hi, G', h2, e2⟩
    have sq : SqL K H' a (xs.map V.int) := SqL.of (h2.sub _ _ (e2 _ _ a1))
    by_cases hlt : i < xs.length
    · refine .inr ⟨⟨_, .int xs[i], sq, by simp [hlt]⟩, fun H3 => ∃ G', HS (c.pinP (one Dl (.dK (vsI (tbF f (xs.take (i + 1))))))) G' σ H3 ds p1 ∧ Ex G1 G', fun H3 q => ⟨xs.length - (i + 1), by omega, rfl, hlt, q⟩, ?_⟩
      rintro x H3 ⟨rfl, y⟩
      have hx : V.int xs[i] = x := by
        have := y _ sq
        rw [List.getElem?_map, List.getElem?_eq_getElem hlt] at this
        exact Option.some.inj this
      subst hx
      have hw : HS (c.pinP (one Dl (.dK (vsI (tbF f (xs.take i)))))) G' ((L2.wipe σ [j]).set j (some (.int xs[i]))) H3 ((wipeD ds [j]).set j (some (.d (.int xs[i])))) p1 := (h2.wipe [j]).set (w := .d (.int xs[i])) (R.int _) fun xs z => by cases z
      refine ⟨wipe_set σ j _, ?_⟩
      dsimp only [tYes]
      rw [if_pos rfl]
      obtain ⟨u, s1, s2⟩ := hw.slots j (.d (.int xs[i])) (by rw [List.getElem?_set_self (by show j < (ds.set j none).length; rw [List.length_set]; exact hj)])
      have s2' : R G' u (.int xs[i]) := s2
      cases s2'
      refine ⟨_, s1, ?_⟩
      refine step xs[i] (List.getElem_mem hlt) _ (F0 _) G' _ H3 hw _ ?_
      rintro z G3 H5 w p3 h3 e3 f3 ⟨rfl, rfl⟩
      have f3' : R G3 z (.int (f xs[i])) := f3
      cases f3'
      have hDl : H5 Dl = some (.dK (vsI (tbF f (xs.take i)))) := h3.pin _ _ (pinP_at one_at)
      refine ⟨_, .inl xs[i], rfl, hDl, ?_, G3, ?_, e2.trans e3⟩
      · rw [vsI_len, List.length_map, List.length_take]
        exact Nat.lt_of_le_of_lt (Nat.min_le_right _ _) hl
      · obtain ⟨_, h4⟩ := (h2.backN no h3 e3).repin (o' := .dK (putK (vsI (tbF f (xs.take i))) (.inl xs[i]) (.int (f xs[i])))) (F0 _) one_at
        rw [one_upd] at h4
        have hn : valV (vsI (tbF f (xs.take i))) (.inl xs[i]) = none := vsI_none fun e he z => by
          obtain ⟨x, hx, rfl⟩ := List.mem_map.mp he
          obtain ⟨k, hk, ek⟩ := List.mem_iff_getElem.mp hx
          rw [List.length_take] at hk
          rw [List.getElem_take] at ek
          have z' : x = xs[i] := z
          have := (List.getElem_inj nd).mp (ek.trans z')
          omega
        rw [putK_new _ _ _ hn, ← vsI_app] at h4 ⊢
        have et : tbF f (xs.take (i + 1)) = tbF f (xs.take i) ++ [(xs[i], f xs[i])] := by
          rw [List.take_add_one, List.getElem?_eq_getElem hlt]
          show List.map _ (_ ++ [_]) = _
          rw [List.map_append]
          rfl
        rw [et]
        exact h4
    · have ei : i = xs.length := by omega
      subst ei
      refine .inl ⟨⟨_, sq, by rw [List.length_map]; exact Nat.le_refl _⟩, ?_⟩
      rw [List.take_length] at h2
      exact hk Dl H' (fun b o q => h2.keep b o (by rw [show (c.pinP _).pool = c.pool from rfl, hc]; simp) q) (fun b o q => h2.pin b o (pinP_at q)) n1.2.2.2.2
theorem lc_turnK (J : Nat → List D → List D → Prop) {G1 : Hp} {Dl : Addr} {i : Nat} {v : V} {x : D} {H' : Hp} (f : DF c σ ds Dl) (hj : ∀ (xs : List D), ds[j]? ≠ some (some (W.o xs))) (p : PvC c σ ds G1 Dl J i H') (hx : ∀ G', Ex G1 G' → R G' v x)
    (user : ∀ acc pl', J i acc pl' → ∀ o, WT (c.with Dl o) tt ((wipeD ds [j]).set j (some (.d x))) pl' fun b p2 => if b = true then WE (c.with Dl o) te ((wipeD ds [j]).set j (some (.d x))) p2
      (isD fun y p3 => acc.length < sizeLine ∧ J (i + 1) (acc ++ [y]) p3) else J (i + 1) acc p2) :
    tt ((L2.wipe σ [j]).set j (some v)) H' fun b H3 => if b = true then te ((L2.wipe σ [j]).set j (some v)) H3 fun y H4 => ∃ acc, H4 Dl = some (.lst acc) ∧ acc.length < sizeLine ∧ PvC c σ ds G1 Dl J (i + 1) (upd H4 Dl (.lst (acc ++ [y]))) else PvC c σ ds G1 Dl J (i + 1) H3 := by
  obtain ⟨G', pl', acc, us, h, e1, hD, ra, gD, hJ⟩ := p
  have hw : HS c G' ((L2.wipe σ [j]).set j (some v)) H' ((wipeD ds [j]).set j (some (.d x))) pl' := (h.wipe [j]).set (w := .d x) (hx G' e1) fun xs z => by cases z
  have same : ∀ (i : Nat) (xs : List D), ds[i]? = some (some (W.o xs)) → ((wipeD ds [j]).set j (some (.d x)))[i]? = some (some (W.o xs)) ∧ ((L2.wipe σ [j]).set j (some v))[i]? = σ[i]? := fun i xs q => by
    have ne : j ≠ i := fun e => hj xs (e ▸ q)
    have nm : i ∉ [j] := fun z => ne (List.mem_singleton.mp z).symm
    rw [List.getElem?_set_ne ne, List.getElem?_set_ne ne, wipeD_ne nm, wipe_ne nm]
    exact ⟨q, rfl⟩
  have f2 : DF c ((L2.wipe σ [j]).set j (some v)) ((wipeD ds [j]).set j (some (.d x))) Dl := ⟨f.h0, f.pin, f.pool, f.hd, fun i xs p q1 q2 => by
    by_cases e : j = i
    · subst e
      have hlt : j < ((wipeD ds [j])).length := by
        have := (List.getElem?_eq_some_iff.mp q1).1
        rw [List.length_set] at this
        exact this
      rw [List.getElem?_set_self hlt] at q1
      cases q1
    · have nm : i ∉ [j] := fun z => e (List.mem_singleton.mp z).symm
      rw [List.getElem?_set_ne e, wipeD_ne nm] at q1
      rw [List.getElem?_set_ne e, wipe_ne nm] at q2
      exact f.ne i xs p q1 q2⟩
  refine user acc pl' hJ _ G' _ H' (hw.to_with f2 hD gD) _ fun b G2 H2 p2 h2 e2 g2 => ?_
  cases b with
  | true =>
    refine (show WE _ te _ p2 _ from g2) G2 _ H2 h2 _ fun y G3 H3 w p3 h3 e3 f3 g3 => ?_
    match w, f3, g3 with
    | .d z, f3, ⟨g3, g4⟩ =>
      have b3 := h.back f h3 (e2.trans e3) same
      have dD : G3 Dl = none := h3.gn Dl _ with_at
      exact ⟨us, h3.pin Dl _ with_at, by rw [ra.len]; exact g3, G3, p3, acc ++ [z], us ++ [y], b3.push f dD, e1.trans (e2.trans e3), upd_same, (ra.up (e2.trans e3)).app (.cons f3 .nil), dD, g4⟩
  | false =>
    exact ⟨G2, p2, acc, us, h.back f h2 e2 same, e1.trans e2, h2.pin Dl _ with_at, ra.up e2, h2.gn Dl _ with_at, g2⟩
theorem we_lcK {id : Nat} {p : Addr} {od : Obj} (J : Nat → List D → List D → Prop) (tb : List (Int × Int)) (hj : ∀ (xs : List D), ds[j]? ≠ some (some (W.o xs))) (hid : ds[id]? = some (some (.v (.ref p)))) (hp : c.pin p = some (.frz od (.dK (vsI tb)))) (h : J 0 [] pl)
    (user : ∀ (i : Nat) e acc pl', tb[i]? = some e → J i acc pl' → ∀ Dl o, (c.with Dl o).pin p = some (.frz od (.dK (vsI tb))) → WT (c.with Dl o) tt ((wipeD ds [j]).set j (some (.d (.int e.1)))) pl' fun b p2 => if b = true then WE (c.with Dl o) te ((wipeD ds [j]).set j (some (.d (.int e.1)))) p2
      (isD fun y p3 => acc.length < sizeLine ∧ J (i + 1) (acc ++ [y]) p3) else J (i + 1) acc p2)
    (hq : ∀ acc pl', J tb.length acc pl' → Φ (.d (.list acc)) pl') : WE c (tLc (iKeys (tVar id)) (gName j) tt te [j]) ds pl Φ := fun G σ H h0 Q q => by
  obtain ⟨v, z1, z2⟩ := h0.slots id _ hid
  have z2' : v = .ref p := z2
  subst z2'
  refine ⟨_, z1, p, od, rfl, .inl ⟨_, h0.pin _ _ hp, fun Dl hD => ?_⟩⟩
  have f := df_new h0 hD
  have ne : p ≠ Dl := fun e => by
    rw [e, f.pin] at hp
    cases hp
  refine ⟨fun i m H' => m = tb.length - i ∧ i ≤ tb.length ∧ PvC c σ ds G Dl J i H', ⟨tb.length, by simp, Nat.zero_le _, pv_start J h0 hD h⟩, ?_⟩
  rintro i m H' ⟨rfl, hi, pv⟩
  have hf : H' p = some (.frz od (.dK (vsI tb))) := by
    obtain ⟨G', pl', acc, us, h2, _⟩ := pv
    exact h2.pin _ _ hp
  by_cases hlt : i < tb.length
  · refine .inr ⟨⟨hf, by rw [vsI_len]; exact hlt⟩, fun H3 => PvC c σ ds G Dl J (i + 1) H3, fun H3 q => ⟨tb.length - (i + 1), by omega, rfl, hlt, q⟩, ?_⟩
    rintro x H3 ⟨rfl, k, v, hk, rfl⟩
    have ek : k = .inl tb[i].1 := by
      unfold vsI at hk
      rw [List.getElem?_map, List.getElem?_eq_getElem hlt] at hk
      exact (Prod.mk.inj (Option.some.inj hk)).1.symm
    subst ek
    exact ⟨wipe_set σ j _, lc_turnK J f hj pv (x := .int tb[i].1) (fun G' e => R.int _) fun acc pl' hJ o => user i tb[i] acc pl' (List.getElem?_eq_getElem hlt) hJ Dl o (by rw [with_ne ne]; exact hp)⟩
  · have ei : i = tb.length := by omega
    subst ei
    exact .inl ⟨⟨hf, by rw [vsI_len]; exact Nat.le_refl _⟩, pv_end f pv hq q⟩
theorem we_dgetK {id : Nat} {p : Addr} {od : Obj} {tb : List (Int × Int)} {k x : Int} (nd : (tb.map (·.1)).Nodup) (hp : c.pin p = some (.frz od (.dK (vsI tb)))) (hid : ds[id]? = some (some (.v (.ref p)))) (hj : ds[j]? = some (some (.d (.int k)))) (hx : (k, x) ∈ tb) (h : Φ (.d (.int x)) pl) :
    WE c (tDGet (tVar id) (tVar j)) ds pl Φ := fun G σ H h0 Q q => by
  obtain ⟨v, z1, z2⟩ := h0.slots id _ hid
  have z2' : v = .ref p := z2
  subst z2'
  obtain ⟨u, y1, y2⟩ := h0.slots j _ hj
  have y2' : R G u (.int k) := y2
  cases y2'
  refine ⟨_, z1, _, y1, p, .int x, rfl, ?_, q _ G H (.d (.int x)) pl h0 (Ex.refl _) (R.int x) h⟩
  exact .inl ⟨_, .inl k, .inr ⟨od, h0.pin _ _ hp⟩, rfl, (vsI_some nd hx).symm⟩
theorem wsk_retLockK {id : Nat} {p : Addr} (ft : Fits c G0 D' E) (J : Nat → List D → List D → Prop) (tb : List (Int × Int)) (F : Fresh c (one p (.dK (vsI tb)))) (hj : ∀ (xs : List D), ds[j]? ≠ some (some (W.o xs))) (hid : ds[id]? = some (some (.v (.ref p)))) (h : J 0 [] pl)
    (user : ∀ (i : Nat) e acc pl', tb[i]? = some e → J i acc pl' → ∀ (c' : Cn) od, c'.pin p = some (.frz od (.dK (vsI tb))) → WT c' tt ((wipeD ds [j]).set j (some (.d (.int e.1)))) pl' fun b p2 => if b = true then WE c' te ((wipeD ds [j]).set j (some (.d (.int e.1)))) p2
      (isD fun y p3 => acc.length < sizeLine ∧ J (i + 1) (acc ++ [y]) p3) else J (i + 1) acc p2)
    (hq : ∀ acc pl', J tb.length acc pl' → E.rt (.d (.list acc)) pl') : WSK (c.pinP (one p (.dK (vsI tb)))) (tRet (tLockE (tLc (iKeys (tVar id)) (gName j) tt te [j]))) ds pl D' G0 := fun G σ H hs e => by
  obtain ⟨z1, z2⟩ := dict_at hs hid one_at
  refine ⟨p, .dK _, z2, True.intro, fun od => ?_⟩
  obtain ⟨F2, h2⟩ := hs.repin (o' := .frz od (.dK (vsI tb))) F one_at
  rw [one_upd] at F2 h2
  refine we_lcK (od := od) (Φ := isD fun d p1 => E.rt (.d d) p1) J tb hj hid (pinP_at one_at) h (fun i e acc pl' h1 h2 Dl o h3 => user i e acc pl' h1 h2 _ od h3) hq G σ _ h2 _ ?_
  rintro v G3 H3 w p3 h3 e3 f3 g3
  refine ⟨h3.pin _ _ (pinP_at one_at), ?_⟩
  obtain ⟨F4, h4⟩ := h3.repin (o' := .dK (vsI tb)) F2 one_at
  rw [one_upd] at F4 h4
  have h5 := h4.unpin (H' := upd H3 p (.dK (vsI tb))) (fun a o q => ⟨(F4 a o q).1, (F4 a o q).2.1⟩) (fun a _ => rfl) (fun a o q => ⟨_, h4.pin a o (pinP_at q)⟩)
  match w, f3, g3 with
  | .d d, f3, g3 => exact ft.hide.rt v G3 σ _ ds (.d d) p3 h5 (e.trans e3) f3 g3
end
end PD

/-! PD65: heights held and stuck; rows of spans -/
namespace PD
open PySem PySem.Spec PyProof.Rows L2 Evl
def heldN (v : Dv) (arm : Int) (n : Nat) : List Int := ((List.range n).map fun (h : Nat) => (h : Int)).filter fun h => held v (h, arm)
abbrev heldL (v : Dv) (arm : Int) : List Int := heldN v arm (lcmV v).toNat
theorem heldN_succ (v : Dv) (arm : Int) (n : Nat) : heldN v arm (n + 1) = heldN v arm n ++ (if held v ((n : Int), arm) = true then [(n : Int)] else []) := by
  unfold heldN
  rw [List.range_succ, List.map_append, List.filter_append]
  by_cases h : held v ((n : Int), arm) = true
  · rw [if_pos h]
    show _ ++ List.filter _ [(n : Int)] = _
    rw [List.filter_cons_of_pos (p := fun h => held v (h, arm)) h]; rfl
  · rw [if_neg h]
    show _ ++ List.filter _ [(n : Int)] = _
    rw [List.filter_cons_of_neg (p := fun h => held v (h, arm)) h]; rfl
theorem heldN_mem {v : Dv} {arm : Int} {n : Nat} {x : Int} : x ∈ heldN v arm n ↔ 0 ≤ x ∧ x < (n : Int) ∧ held v (x, arm) = true := by
  unfold heldN
  rw [List.mem_filter, List.mem_map]
  constructor
  · rintro ⟨⟨h, h1, rfl⟩, h2⟩
    have := List.mem_range.mp h1
    exact ⟨by omega, by omega, h2⟩
  · rintro ⟨h1, h2, h3⟩
    exact ⟨⟨x.toNat, List.mem_range.mpr (by omega), by omega⟩, h3⟩
theorem heldN_len (v : Dv) (arm : Int) (n : Nat) : (heldN v arm n).length ≤ n := by
  unfold heldN
  exact Nat.le_trans (List.length_filter_le _ _) (by rw [List.length_map, List.length_range]; exact Nat.le_refl _)
theorem heldN_nd (v : Dv) (arm : Int) (n : Nat) : (heldN v arm n).Nodup := by
  unfold heldN
  refine List.nodup_iff_pairwise_ne.mpr (List.Pairwise.filter _ (List.pairwise_map.mpr ?_))
  exact (List.nodup_iff_pairwise_ne.mp List.nodup_range).imp fun h e => h (by omega)
theorem heldL_ne {v : Dv} (ok : v.Ok) (arm : Int) : heldL v arm ≠ [] := fun e => by
  obtain ⟨h, hh⟩ := held_ex (v := v) ok arm
  obtain ⟨cm, _⟩ := com_lcmV ok
  have L0 := cm.pos
  have p := cm.plc (h % lcmV v) arm (h / lcmV v)
  have m1 := Int.emod_nonneg h (show lcmV v ≠ 0 by omega)
  have m2 := Int.emod_lt_of_pos h L0
  rw [Int.emod_add_mul_ediv] at p
  have hm : h % lcmV v ∈ heldL v arm := heldN_mem.mpr ⟨m1, by omega, by
    have d1 := Int.emod_emod_of_dvd h (Int.dvd_of_emod_eq_zero cm.d1)
    have k1 : ∃ a, h = h % lcmV v + v.1.p * a := ⟨lcmV v / v.1.p * (h / lcmV v), by
      have e1 : v.1.p * (lcmV v / v.1.p) = lcmV v := Int.mul_ediv_cancel' (Int.dvd_of_emod_eq_zero cm.d1)
      rw [← Int.mul_assoc, e1, Int.emod_add_mul_ediv]⟩
    have k2 : ∃ a, h = h % lcmV v + v.2.p * a := ⟨lcmV v / v.2.p * (h / lcmV v), by
      have e1 : v.2.p * (lcmV v / v.2.p) = lcmV v := Int.mul_ediv_cancel' (Int.dvd_of_emod_eq_zero cm.d2)
      rw [← Int.mul_assoc, e1, Int.emod_add_mul_ediv]⟩
    obtain ⟨a, ha⟩ := k1
    obtain ⟨b, hb⟩ := k2
    have := held_up (v := v) (s := h % lcmV v - h) (a := -a) (b := -b) (by rw [Int.mul_neg]; omega) (by rw [Int.mul_neg]; omega) hh
    rw [show h + (h % lcmV v - h) = h % lcmV v by omega] at this
    exact this⟩
  rw [e] at hm
  cases hm
def stuckL (v : Dv) (arm : Int) (ms : List Int) : List Int := (heldL v arm).filter fun h => decide ((mvs v (h, arm) ms).1 = h)
/-! ### rows -/
end PD

/-! PD66: never a common pitch from the mean; cycles no longer than the held heights -/
namespace PD
open PySem PySem.Spec PyProof.Rows L2 Evl
section
variable {v : Dv} {ms : List Int} {palm L t b : Int}
end
end PD

/-! PD67: a device with more teeth; zip of two tuples -/
namespace PD
open PySem PySem.Spec PyProof.Rows L2 Evl
section
variable {c : Cn} {K : PySem.W.Frag} {ds : DS} {pl : List D} {Φ : W → List D → Prop} {tr : TA} {t : TS} {E : EE}
end
structure More (a b : Comb) : Prop where
  p : a.p = b.p
  sub : ∀ t ∈ a.ts, t ∈ b.ts
def MoreD (v w : Dv) : Prop := More v.1 w.1 ∧ More v.2 w.2
section
variable {v w : Dv} (ov : v.Ok) (ow : w.Ok) (m : MoreD v w)
include ov ow m
omit ov ow in
end
/-! ### best heights -/
theorem updG_ne {b : List OI} {g g2 : Nat} {r : Int} (h : g ≠ g2) : (updG b g r)[g2]? = b[g2]? := by
  unfold updG
  split
  · split
    · rw [List.getElem?_set_ne h]
    · rfl
  · rw [List.getElem?_set_ne h]
  · rfl
theorem updG_at {b : List OI} {g : Nat} {r : Int} (h : g < b.length) : ∃ x, (updG b g r)[g]? = some (some x) ∧ (x = r ∨ b[g]? = some (some x)) ∧ r ≤ x ∧ ∀ y, b[g]? = some (some y) → y ≤ x := by
  unfold updG
  cases e : b[g]? with
  | none => rw [List.getElem?_eq_none_iff] at e; omega
  | some o =>
    cases o with
    | none => exact ⟨r, by show (b.set g (some r))[g]? = _; rw [List.getElem?_set_self h], .inl rfl, Int.le_refl _, fun y hy => by cases hy⟩
    | some x =>
      by_cases q : x < r
      · exact ⟨r, by show (if x < r then b.set g (some r) else b)[g]? = _; rw [if_pos q, List.getElem?_set_self h], .inl rfl, Int.le_refl _, fun y hy => by cases hy; omega⟩
      · exact ⟨x, by show (if x < r then b.set g (some r) else b)[g]? = _; rw [if_neg q]; exact e, .inr rfl, by omega, fun y hy => by cases hy; exact Int.le_refl _⟩
section
variable {v w : Dv} (ov : v.Ok) (ow : w.Ok) (m : MoreD v w)
include ov ow m
end
/-! ### counts -/
def cbN (c : Comb) (n : Int) : Int := n / c.p * (c.ts.length : Int) + ((c.ts.filter fun t => decide (t < n % c.p)).length : Int)
end PD

/-! PD68: gaps that are there; combs of all teeth -/
namespace PD
open PySem PySem.Spec PyProof.Rows L2 Evl
def allC (p : Int) : Comb := ⟨p, (List.range p.toNat).map fun (i : Nat) => (i : Int)⟩
def allD (v : Dv) : Dv := (allC v.1.p, allC v.2.p)
end PD

/-! PD69: [.. for i in range(a, b, s) for y in ys] -/
namespace PD
open PySem PySem.Spec PyProof.Rows L2 Evl
section
variable {c : Cn} {K : PySem.W.Frag} {ds : DS} {pl : List D} {Φ : W → List D → Prop} {te : TE} {tr : TA}
theorem we_lc2R3 {j1 j2 m0 : Nat} (J : Nat → Nat → List D → List D → Prop) (lo st : Int) (N : Nat) (ys : List D) (no : Nod ds) (hm : ds[m0]? = some (some (.d (.list ys)))) (hm1 : m0 ∉ [j1, j2])
    (h : WA c tr ds pl fun zs p1 => ∃ hi, zs = [.int lo, .int hi, .int st] ∧ RgC lo hi st N ∧ J 0 0 [] p1)
    (user : ∀ (i k : Nat) y acc pl', i < N → ys[k]? = some y → J i k acc pl' → ∀ pin, WE { c with pin := pin } te ((wipeD ((wipeD ds [j1, j2]).set j1 (some (.d (.int (lo + (i : Nat) * st))))) [j2]).set j2 (some (.d y))) pl' (isD fun z p3 => acc.length < sizeLine ∧ J i (k + 1) (acc ++ [z]) p3))
    (next : ∀ i acc pl', J i ys.length acc pl' → J (i + 1) 0 acc pl')
    (hq : ∀ acc pl', J N 0 acc pl' → Φ (.d (.list acc)) pl') :
    WE c (tLc2 (iRng3 tr) (gName j1) tYes (iList K (tVar m0)) (gName j2) tYes te [j1, j2] [j2]) ds pl Φ := fun G σ H h0 Q q => h G σ H h0 _ fun vs G1 H1 zs p1 h1 e1 f1 ⟨hi, ez, rg, g1⟩ => by
  subst ez
  cases f1 with
  | cons r1 f1 =>
  cases f1 with
  | cons r2 f1 =>
  cases f1 with
  | cons r3 f1 =>
  cases f1
  cases r1
  cases r2
  cases r3
  refine ⟨lo, hi, st, N, rfl, rg, fun Dl hD => ?_⟩
  have f := df_new h1 hD
  refine ⟨fun i m H' => m = N - i ∧ i ≤ N ∧ PvC c σ ds G1 Dl (fun i => J i 0) i H', ⟨N, by simp, Nat.zero_le _, pv_start (fun i => J i 0) h1 hD g1⟩, ?_⟩
  rintro i m H' ⟨rfl, hi', p⟩
  obtain ⟨G', pl', acc, us, h2, e2, hD2, ra, gD, hJ⟩ := id p
  by_cases hlt : i < N
  · refine .inr ⟨hlt, PvC c σ ds G1 Dl (fun i => J i 0) (i + 1), fun H3 q => ⟨N - (i + 1), by omega, rfl, hlt, q⟩, ?_⟩
    rintro x H3 ⟨eH, rfl⟩
    subst eH
    have mem : ∀ w ∈ [j1, j2], w ∈ [j1, j2] := fun w hw => hw
    refine ⟨?_, ?_⟩
    · rw [wipe_in (by simp), wipe_sub mem]
    unfold tYes
    dsimp only
    rw [if_pos rfl]
    obtain ⟨w, w1, w2⟩ := h2.slots m0 _ hm
    have w2' : R _ w (.list ys) := w2
    cases w2' with
    | @lst a2 us2 _ c1 d1 =>
    refine ⟨.ref a2, ?_, a2, rfl, ⟨us2, SqL.of (h2.sub _ _ c1)⟩, ?_⟩
    · have ne1 : j1 ≠ m0 := fun e => hm1 (e ▸ by simp)
      rw [List.getElem?_set_ne ne1, wipe_ne hm1]
      exact w1
    refine ⟨fun k m H'' => m = us2.length - k ∧ k ≤ us2.length ∧ PvC c σ ds G' Dl (J i) k H'', ⟨us2.length, by simp, Nat.zero_le _, _, pl', acc, us, h2, Ex.refl _, hD2, ra, gD, hJ⟩, ?_⟩
    rintro k m H'' ⟨rfl, hk, p2⟩
    obtain ⟨G5, pl5, acc5, us5, h5, e5, hD5, ra5, gD5, hJ5⟩ := id p2
    have sq2 : SqL K H'' a2 us2 := SqL.of (h5.sub _ _ (e5 _ _ c1))
    by_cases hlt2 : k < us2.length
    · refine .inr ⟨⟨us2, us2[k], sq2, by simp [hlt2]⟩, PvC c σ ds G' Dl (J i) (k + 1), fun H3 q => ⟨us2.length - (k + 1), by omega, rfl, hlt2, q⟩, ?_⟩
      rintro y H6 ⟨eH, y3⟩
      subst eH
      obtain ⟨dy, hdy, hry⟩ := d1.get' (y3 us2 sq2)
      refine ⟨wipe_set _ j2 y, ?_⟩
      have hw0 := (h5.wipe [j1, j2]).set (i := j1) (w := .d (.int (lo + (i : Nat) * st))) (R.int _) fun xs z => by cases z
      have hw := (hw0.wipe [j2]).set (i := j2) (w := .d dy) (R.up hry e5) fun xs z => by cases z
      have nod := (((no.wipe [j1, j2]).set j1 (.int (lo + (i : Nat) * st))).wipe [j2]).set j2 dy
      exact lc_turnG (tt := tYes) (J i) f (nod.df f) (fun i' xs' q => absurd q (no i' xs')) h5 hw e5 (Ex.refl _) hD5 gD5 ra5 (fun pin => wt_yes (iteV rfl (user i k dy acc5 pl5 hlt hdy hJ5 pin))) hJ5
    · have ek : k = us2.length := by omega
      subst ek
      have hJ6 : J i ys.length acc5 pl5 := by rw [← d1.len]; exact hJ5
      exact .inl ⟨⟨us2, sq2, Nat.le_refl _⟩, G5, pl5, acc5, us5, h5, e2.trans e5, hD5, ra5, gD5, next i acc5 pl5 hJ6⟩
  · have ei : i = N := by omega
    subst ei
    exact .inl ⟨Nat.le_refl _, pv_end f p hq fun v G' H' w pl' h2 e2 f2 g2 => q v G' H' w pl' h2 (e1.trans e2) f2 g2⟩
end
end PD

/-! PD70: combs of the least pitch -/
namespace PD
open PySem PySem.Spec PyProof.Rows L2 Evl
theorem rgc_all : ∀ p : Fin 25, ∀ q : Fin 25, 1 ≤ q.val → RgC 0 (p.val : Int) (q.val : Int) ((p.val + q.val - 1) / q.val) := by
  unfold RgC
  decide +kernel
theorem rgc {p q : Int} (p0 : 0 ≤ p) (p24 : p ≤ 24) (q1 : 1 ≤ q) (q24 : q ≤ 24) : RgC 0 p q ((p.toNat + q.toNat - 1) / q.toNat) := by
  have h := rgc_all ⟨p.toNat, by omega⟩ ⟨q.toNat, by omega⟩ (by show 1 ≤ q.toNat; omega)
  rw [show ((p.toNat : Nat) : Int) = p by omega, show ((q.toNat : Nat) : Int) = q by omega] at h
  exact h
def under (ts : List Int) (part : Int) : List Int := ts.filter fun t => decide (t < part)
def repT (ts : List Int) (part : Int) (N : Nat) : List Int := (List.range N).flatMap fun (k : Nat) => (under ts part).map fun t => (k : Int) * part + t
theorem repT_mem {ts : List Int} {part : Int} {N : Nat} {x : Int} : x ∈ repT ts part N ↔ ∃ k : Nat, k < N ∧ ∃ t, t ∈ ts ∧ t < part ∧ x = (k : Int) * part + t := by
  unfold repT under
  rw [List.mem_flatMap]
  constructor
  · rintro ⟨k, hk, h⟩
    obtain ⟨t, ht, rfl⟩ := List.mem_map.mp h
    obtain ⟨h1, h2⟩ := List.mem_filter.mp ht
    exact ⟨k, List.mem_range.mp hk, t, h1, of_decide_eq_true h2, rfl⟩
  · rintro ⟨k, hk, t, h1, h2, rfl⟩
    exact ⟨k, List.mem_range.mpr hk, List.mem_map.mpr ⟨t, List.mem_filter.mpr ⟨h1, decide_eq_true h2⟩, rfl⟩⟩
theorem repT_succ (ts : List Int) (part : Int) (N : Nat) : repT ts part (N + 1) = repT ts part N ++ (under ts part).map fun t => (N : Int) * part + t := by
  unfold repT
  rw [List.range_succ, List.flatMap_append]
  simp
theorem asc_ext : ∀ {l m : List Int}, l.Pairwise (· < ·) → m.Pairwise (· < ·) → (∀ x, x ∈ l ↔ x ∈ m) → l = m
  | [], [], _, _, _ => rfl
  | [], b :: m, _, _, h => nomatch (h b).mpr List.mem_cons_self
  | a :: l, [], _, _, h => nomatch (h a).mp List.mem_cons_self
  | a :: l, b :: m, h1, h2, h => by
    rw [List.pairwise_cons] at h1 h2
    have ab : a = b := by
      rcases List.mem_cons.mp ((h a).mp List.mem_cons_self) with e | e
      · exact e
      · rcases List.mem_cons.mp ((h b).mpr List.mem_cons_self) with e2 | e2
        · exact e2.symm
        · have := h1.1 b e2
          have := h2.1 a e
          omega
    subst ab
    rw [asc_ext h1.2 h2.2 fun x => ⟨fun hx => ?_, fun hx => ?_⟩]
    · rcases List.mem_cons.mp ((h x).mp (List.mem_cons_of_mem _ hx)) with e | e
      · have := h1.1 x hx; omega
      · exact e
    · rcases List.mem_cons.mp ((h x).mpr (List.mem_cons_of_mem _ hx)) with e | e
      · have := h2.1 x hx; omega
      · exact e
def Per (c : Comb) (q : Int) : Prop := ∀ n, caught c (n + q) = caught c n
theorem Per.mul {c : Comb} {q : Int} (h : Per c q) (n : Int) : ∀ k : Nat, caught c (n + q * (k : Int)) = caught c n
  | 0 => by rw [show q * ((0 : Nat) : Int) = 0 by rw [show ((0 : Nat) : Int) = 0 by rfl, Int.mul_zero], Int.add_zero]
  | k + 1 => by
    rw [show n + q * ((k + 1 : Nat) : Int) = n + q * (k : Int) + q by rw [show ((k + 1 : Nat) : Int) = (k : Int) + 1 by omega, Int.mul_add, Int.mul_one]; omega, h, h.mul n k]
theorem Per.all {c : Comb} {q : Int} (h : Per c q) (n k : Int) : caught c (n + q * k) = caught c n := by
  rcases Int.le_total 0 k with z | z
  · obtain ⟨m, rfl⟩ := Int.eq_ofNat_of_zero_le z
    exact h.mul n m
  · obtain ⟨m, hm⟩ := Int.eq_ofNat_of_zero_le (show 0 ≤ -k by omega)
    have := h.mul (n + q * k) m
    rw [← hm, Int.mul_neg, show n + q * k + -(q * k) = n by omega] at this
    exact this.symm
theorem caught_mod {c : Comb} (n : Int) : caught c (n % c.p) = caught c n := by
  unfold caught
  rw [Int.emod_emod_of_dvd n (Int.dvd_refl c.p)]
theorem caught_in {c : Comb} (ok : c.Ok) {n : Int} (h0 : 0 ≤ n) (h1 : n < c.p) : caught c n = true ↔ n ∈ c.ts := by
  unfold caught
  rw [Int.emod_eq_of_lt h0 h1]
  exact decide_eq_true_iff
theorem rep_per {c : Comb} (ok : c.Ok) {q : Int} (q1 : 1 ≤ q) (qp : q < c.p) (qd : c.p % q = 0) {N : Nat} (hN : (N : Int) * q = c.p) : repT c.ts q N = c.ts ↔ Per c q := by
  have p1 := ok.p1
  constructor
  · intro e n
    have key : ∀ x, caught c x = true ↔ ∃ t, t ∈ c.ts ∧ t < q ∧ x % q = t := fun x => by
      have r0 := Int.emod_nonneg x (show c.p ≠ 0 by omega)
      have r1 := Int.emod_lt_of_pos x (show 0 < c.p by omega)
      rw [← caught_mod, caught_in ok r0 r1]
      have xm : x % c.p % q = x % q := Int.emod_emod_of_dvd x (Int.dvd_of_emod_eq_zero qd)
      constructor
      · intro h
        rw [← e] at h
        obtain ⟨k, _, t, h1, h2, h3⟩ := repT_mem.mp h
        have t0 := ok.low t h1
        refine ⟨t, h1, h2, ?_⟩
        rw [← xm, h3, Int.mul_comm, Int.add_comm, Int.add_mul_emod_self_left, Int.emod_eq_of_lt t0 h2]
      · rintro ⟨t, h1, h2, h3⟩
        rw [← e]
        have ed := Int.emod_add_mul_ediv (x % c.p) q
        rw [xm, h3] at ed
        have d0 : 0 ≤ x % c.p / q := Int.ediv_nonneg r0 (by omega)
        have d1 : x % c.p / q < N := by
          apply Int.ediv_lt_of_lt_mul (by omega)
          rw [hN]; exact r1
        refine repT_mem.mpr ⟨(x % c.p / q).toNat, by omega, t, h1, h2, ?_⟩
        rw [Int.toNat_of_nonneg d0, Int.mul_comm]
        omega
    have e2 : (n + q) % q = n % q := by
      have := Int.add_mul_emod_self_left n q 1
      rw [Int.mul_one] at this
      exact this
    cases h1 : caught c (n + q) with
    | true =>
      have := (key (n + q)).mp h1
      rw [e2] at this
      exact ((key n).mpr this).symm
    | false =>
      cases h2 : caught c n with
      | false => rfl
      | true =>
        have := (key n).mp h2
        rw [← e2] at this
        rw [(key (n + q)).mpr this] at h1
        cases h1
  · intro h
    -- both ascend and have the same elements
    have up1 : (repT c.ts q N).Pairwise (· < ·) := by
      have : ∀ M : Nat, (repT c.ts q M).Pairwise (· < ·) ∧ ∀ x ∈ repT c.ts q M, x < (M : Int) * q := fun M => by
        induction M with
        | zero => exact ⟨List.Pairwise.nil, fun x hx => nomatch hx⟩
        | succ M ih =>
          rw [repT_succ]
          have uu : ((under c.ts q).map fun t => (M : Int) * q + t).Pairwise (· < ·) := List.pairwise_map.mpr ((List.Pairwise.filter _ ok.up).imp fun h => by omega)
          refine ⟨List.pairwise_append.mpr ⟨ih.1, uu, fun a ha b hb => ?_⟩, fun x hx => ?_⟩
          · obtain ⟨t, ht, rfl⟩ := List.mem_map.mp hb
            have := ih.2 a ha
            have := ok.low t (List.mem_filter.mp ht).1
            omega
          · have em : ((M + 1 : Nat) : Int) * q = (M : Int) * q + q := by rw [show ((M + 1 : Nat) : Int) = (M : Int) + 1 by omega, Int.add_mul, Int.one_mul]
            rcases List.mem_append.mp hx with z | z
            · have := ih.2 x z; omega
            · obtain ⟨t, ht, rfl⟩ := List.mem_map.mp z
              have := of_decide_eq_true (List.mem_filter.mp ht).2
              omega
      exact (this N).1
    refine asc_ext up1 ok.up fun x => ?_
    rw [repT_mem]
    constructor
    · rintro ⟨k, hk, t, h1, h2, rfl⟩
      have t0 := ok.low t h1
      have kq : (k : Int) * q + q ≤ c.p := by
        rw [← hN]
        have := Int.mul_le_mul_of_nonneg_right (show (k : Int) + 1 ≤ (N : Int) by omega) (show 0 ≤ q by omega)
        rw [Int.add_mul, Int.one_mul] at this
        exact this
      have k0 : 0 ≤ (k : Int) * q := Int.mul_nonneg (by omega) (by omega)
      refine (caught_in ok (by omega) (by omega)).mp ?_
      have := h.all t (k : Int)
      rw [show (k : Int) * q + t = t + q * (k : Int) by rw [Int.mul_comm]; omega, this]
      exact (caught_in ok t0 (by omega)).mpr h1
    · intro hx
      have x0 := ok.low x hx
      have x1 := ok.high x hx
      have ed := Int.emod_add_mul_ediv x q
      have r0 := Int.emod_nonneg x (show q ≠ 0 by omega)
      have r1 := Int.emod_lt_of_pos x (show 0 < q by omega)
      have d0 : 0 ≤ x / q := Int.ediv_nonneg x0 (by omega)
      have d1 : x / q < N := by
        apply Int.ediv_lt_of_lt_mul (by omega)
        rw [hN]; exact x1
      refine ⟨(x / q).toNat, by omega, x % q, ?_, r1, ?_⟩
      · refine (caught_in ok r0 (by omega)).mp ?_
        have := h.all (x % q) (x / q)
        rw [ed] at this
        rw [← this]
        exact (caught_in ok x0 x1).mpr hx
      · rw [Int.toNat_of_nonneg d0, Int.mul_comm]; omega
theorem part_ok {c : Comb} (ok : c.Ok) {q : Int} (q1 : 1 ≤ q) (qp : q < c.p) (qd : c.p % q = 0) (h : Per c q) : (Comb.mk q (under c.ts q)).Ok ∧ ∀ n, caught (Comb.mk q (under c.ts q)) n = caught c n := by
  have p24 := ok.p24
  have same : ∀ n, caught (Comb.mk q (under c.ts q)) n = caught c n := fun n => by
    have r0 := Int.emod_nonneg n (show q ≠ 0 by omega)
    have r1 := Int.emod_lt_of_pos n (show 0 < q by omega)
    have e : caught c n = caught c (n % q) := by
      have := h.all (n % q) (n / q)
      rw [Int.emod_add_mul_ediv] at this
      exact this
    rw [e]
    have e2 : caught (Comb.mk q (under c.ts q)) n = decide (n % q ∈ under c.ts q) := rfl
    rw [e2]
    cases z : caught c (n % q) with
    | true => exact decide_eq_true (List.mem_filter.mpr ⟨(caught_in ok r0 (by omega)).mp z, decide_eq_true r1⟩)
    | false =>
      refine decide_eq_false fun m => ?_
      rw [(caught_in ok r0 (by omega)).mpr (List.mem_filter.mp m).1] at z
      cases z
  refine ⟨⟨q1, by show q ≤ 24; omega, fun e => ?_, fun t ht => ok.low t (List.mem_filter.mp ht).1, fun t ht => of_decide_eq_true (List.mem_filter.mp ht).2, List.Pairwise.filter _ ok.up⟩, same⟩
  cases q2 : c.ts with
  | nil => exact ok.ne q2
  | cons a r =>
    have ha : a ∈ c.ts := by rw [q2]; exact List.mem_cons_self
    have s := same a
    rw [(caught_in ok (ok.low a ha) (ok.high a ha)).mpr ha] at s
    have s2 : decide (a % q ∈ under c.ts q) = true := s
    have e' : under c.ts q = [] := e
    rw [e'] at s2
    cases s2
end PD

/-! PD71: == of lists of numbers -/
namespace PD
open PySem PySem.Spec PyProof.Rows L2 Evl
theorem eqv_consI (a b : Int) (xs ys : List D) : PyData.eqv (.list (.int a :: xs)) (.list (.int b :: ys)) = ((a == b) && PyData.eqv (.list xs) (.list ys)) := rfl
theorem eqv_ints : ∀ a b : List Int, PyData.eqv (.list (a.map PyData.int)) (.list (b.map PyData.int)) = decide (a = b)
  | [], [] => rfl
  | [], b :: bs => rfl
  | a :: as, [] => rfl
  | a :: as, b :: bs => by
    rw [List.map_cons, List.map_cons, eqv_consI, eqv_ints as bs]
    by_cases h1 : a = b <;> by_cases h2 : as = bs <;> simp [h1, h2]
end PD

/-! PD72: [.. for x, y, z in triples]; rises told -/
namespace PD
open PySem PySem.Spec PyProof.Rows L2 Evl
section
variable {c : Cn} {K : PySem.W.Frag} {ds : DS} {pl : List D} {Φ : W → List D → Prop} {te tl : TE} {tt : TT}
end
def riseL (v : Dv) (ns : List (Int × Int)) (m : Int) : List Int := (fitL v ns).map fun b => (mv v b.2 m).1 - b.2.1
def AllEq (l : List Int) : Prop := ∀ a ∈ l, ∀ b ∈ l, a = b
end PD

/-! PD73: least pitches, states alike -/
namespace PD
open PySem PySem.Spec PyProof.Rows L2 Evl
def LeastP (c : Comb) (P : Int) : Prop := 1 ≤ P ∧ P ≤ c.p ∧ c.p % P = 0 ∧ Per c P ∧ ∀ q, 1 ≤ q → q < P → c.p % q = 0 → ¬ Per c q
theorem leastP_of {c b : Comb} (ob : b.Ok) (same : ∀ n, caught b n = caught c n) (h1 : b.p ≤ c.p) (h2 : c.p % b.p = 0) (h3 : ∀ q, 1 ≤ q → q < b.p → c.p % q = 0 → ¬ Per c q) : LeastP c b.p := by
  refine ⟨ob.p1, h1, h2, fun n => ?_, h3⟩
  rw [← same, ← same, ← caught_mod (c := b) (n + b.p), ← caught_mod (c := b) n]
  have := Int.add_mul_emod_self_left n b.p 1
  rw [Int.mul_one] at this
  rw [this]
end PD

/-! PD74: zip of three lists in a comprehension -/
namespace PD
open PySem PySem.Spec PyProof.Rows L2 Evl
def Itz3 (K : PySem.W.Frag) (a b d : Addr) : It :=
  ⟨fun i H => ∃ (xs ys zs : List V) (x y z : V), SqL K H a xs ∧ SqL K H b ys ∧ SqL K H d zs ∧ xs[i]? = some x ∧ ys[i]? = some y ∧ zs[i]? = some z,
    fun i H v H' => ∃ T x y z, v = .ref T ∧ H T = none ∧ H' = upd H T (.tup [x, y, z]) ∧ (∀ xs, SqL K H a xs → xs[i]? = some x) ∧ (∀ ys, SqL K H b ys → ys[i]? = some y) ∧ ∀ zs, SqL K H d zs → zs[i]? = some z,
    fun i H => ∃ xs ys zs : List V, SqL K H a xs ∧ SqL K H b ys ∧ SqL K H d zs ∧ i ≤ xs.length ∧ i ≤ ys.length ∧ i ≤ zs.length ∧ (xs.length = i ∨ ys.length = i ∨ zs.length = i)⟩
def iZip3 (K : PySem.W.Frag) (ta : TA) : TI := fun σ H R => ta σ H fun vs H1 => ∃ a b d xs ys zs, vs = [.ref a, .ref b, .ref d] ∧ SqL K H1 a xs ∧ SqL K H1 b ys ∧ SqL K H1 d zs ∧ R (Itz3 K a b d) H1
section
variable {c : Cn} {K : PySem.W.Frag} {ds : DS} {pl : List D} {Φ : W → List D → Prop} {ta tb te : TE} {tr : TA} {tt : TT} {G H : Hp} {σ : L2.St}
end
end PD

/-! PD75: looks of moves from a state -/
namespace PD
open PySem PySem.Spec PyProof.Rows L2 Evl
def notesL (v : Dv) : Sv → List Int → List (Int × Int)
  | _, [] => []
  | s, m :: r => (m, (mv v s m).1 - s.1) :: notesL v (mv v s m) r
theorem plc_start (v : Dv) (s : Sv) : plc v ((plc v s).1, (plc v s).1 - (plc v s).2) = plc v s := by
  show (s.1 % v.1.p % v.1.p, (s.1 % v.1.p - (s.1 % v.1.p - lf s % v.2.p)) % v.2.p) = (s.1 % v.1.p, lf s % v.2.p)
  rw [show s.1 % v.1.p - (s.1 % v.1.p - lf s % v.2.p) = lf s % v.2.p by omega, Int.emod_emod, Int.emod_emod]
theorem start_mem {v : Dv} (ok : v.Ok) {s : Sv} (h : held v s = true) : plc v s ∈ startsL v := by
  have p1 := ok.1.p1
  have p2 := ok.2.p1
  have a0 := Int.emod_nonneg s.1 (show v.1.p ≠ 0 by omega)
  have a1 := Int.emod_lt_of_pos s.1 (show 0 < v.1.p by omega)
  have l0 := Int.emod_nonneg (lf s) (show v.2.p ≠ 0 by omega)
  have l1 := Int.emod_lt_of_pos (lf s) (show 0 < v.2.p by omega)
  have hh : held v ((plc v s).1, (plc v s).1 - (plc v s).2) = true := by rw [plc_held (plc_start v s)]; exact h
  obtain ⟨a, ha⟩ : ∃ a : Nat, s.1 % v.1.p = a := ⟨_, (Int.toNat_of_nonneg a0).symm⟩
  obtain ⟨l, hl⟩ : ∃ l : Nat, lf s % v.2.p = l := ⟨_, (Int.toNat_of_nonneg l0).symm⟩
  have e : plc v s = ((a : Int), (l : Int)) := by show (s.1 % v.1.p, lf s % v.2.p) = _; rw [ha, hl]
  rw [e] at hh ⊢
  refine List.mem_flatMap.mpr ⟨a, List.mem_range.mpr (by omega), List.mem_map.mpr ⟨l, List.mem_filter.mpr ⟨List.mem_range.mpr (by omega), hh⟩, rfl⟩⟩
section
variable {c : Cn} {K : PySem.W.Frag} {ds : DS} {pl : List D} {Φ : W → List D → Prop}
end
end PD

/-! PD76: calls whose arguments are met, ends of lists -/
namespace PD
open PySem PySem.Spec PyProof.Rows L2 Evl
section
variable {c : Cn} {K : PySem.W.Frag} {ds : DS} {pl : List D} {Φ : W → List D → Prop} {tr : TA} {E : XK}
theorem we_detE {A : Type} {enc : A → List D} {pre : A → Prop} {res : A → D} (ha : WA c tr ds pl fun xs p1 => ∃ a, xs = enc a ∧ pre a ∧ Φ (.d (res a)) p1) : WE c (tCall (spP (det enc pre res)) [] E tr) ds pl Φ := we_call (ha.mono fun xs p1 ⟨a, e, p, h⟩ => ⟨a, e, p, h⟩) det_mono
end
end PD

/-! PD77: sets of numbers made by a comprehension, sorted, of any length -/
namespace PD
open PySem PySem.Spec PyProof.Rows L2 Evl
abbrev stMore (t : (Int → Bool) × Nat) (k : Int) : (Int → Bool) × Nat := (fun j => t.1 j || decide (j = k), if t.1 k = true then t.2 else t.2 + 1)
abbrev stO (w : World) (D : Addr) (t : (Int → Bool) × Nat) : HO := SetO w D t.1 t.2
abbrev st0 : (Int → Bool) × Nat := (fun _ => false, 0)
def tScN (w : World) (wi : TI) (g : TG) (tt : TT) (te : TE) (vs : List Nat) : TE := fun σ H Q => wi σ H fun J HA => ∀ D, HA D = none → ∃ M : Nat → Nat → Hp → Prop, (∃ m, M 0 m (upd HA D (stO w D st0))) ∧ ∀ i m HB, M i m HB →
  (J.stop i HB ∧ Q (.ref D) HB) ∨ (J.go i HB ∧ ∃ N : Hp → Prop, (∀ HC, N HC → ∃ m', m' < m ∧ M (i + 1) m' HC) ∧ ∀ x HC, J.yld i HB x HC → g x (wipe σ vs) HC fun τ HD => wipe τ vs = wipe σ vs ∧ tt τ HD fun b HE =>
    if b = true then te τ HE fun y HF => ∃ (k : Int) (t : (Int → Bool) × Nat), y = .int k ∧ HF D = some (stO w D t) ∧ t.2 + 1 < scanBound ∧ N (upd HF D (stO w D (stMore t k))) else N HE)
section
variable {X : Cx}
def rSortedN (w : World) : List V → Hp → VK → Prop := fun vs H Q => ∃ (a : Addr) (t : (Int → Bool) × Nat), vs = [V.ref a] ∧ H a = some (stO w a t) ∧ t.2 ≤ 100000 ∧
  ∀ (ns : List Int) (p : Addr), ns.Pairwise (· < ·) → (∀ k : Int, k ∈ ns ↔ t.1 k = true) → ns.length = t.2 → H p = none → Q (.ref p) (upd H p (.lst (ns.map V.int)))
end
section
variable {c : Cn} {K : PySem.W.Frag} {ds : DS} {pl : List D} {Φ : W → List D → Prop} {te tl : TE} {tt : TT} {σ : L2.St} {j : Nat} {w : World}
def PvS (w : World) (c : Cn) (σ : L2.St) (ds : DS) (G1 : Hp) (Dl : Addr) (J : Nat → (Int → Bool) × Nat → List D → Prop) (i : Nat) (H' : Hp) : Prop :=
  ∃ G' pl' t, HS c G' σ H' ds pl' ∧ Ex G1 G' ∧ H' Dl = some (stO w Dl t) ∧ G' Dl = none ∧ J i t pl'
end
end PD

/-! PD78: heights that last, and how soon only these are left -/
namespace PD
open PySem PySem.Spec PyProof.Rows L2 Evl
theorem len_of_sub : ∀ {S T : List Int}, S.Nodup → (∀ x ∈ S, x ∈ T) → S.length ≤ T.length
  | [], _, _, _ => Nat.zero_le _
  | a :: S, T, nd, sub => by
    have ha : a ∈ T := sub a List.mem_cons_self
    rw [List.nodup_cons] at nd
    have p := List.perm_cons_erase ha
    have l := p.length_eq
    have := len_of_sub (S := S) (T := T.erase a) nd.2 fun x hx => by
      have ne : x ≠ a := fun e => nd.1 (e ▸ hx)
      exact (List.mem_erase_of_ne ne).mpr (sub x (List.mem_cons_of_mem _ hx))
    rw [List.length_cons] at l ⊢
    omega
def gk (v : Dv) (ms : List Int) (arm : Int) (k : Nat) (x : Int) : Int := hx v ms arm x k % lcmV v
def imgL (v : Dv) (ms : List Int) (arm : Int) (xs : List Int) : List Int := (heldL v arm).filter fun y => xs.any fun x => decide (gk v ms arm 1 x = y)
def setl (v : Dv) (ms : List Int) (arm : Int) : Nat → List Int
  | 0 => heldL v arm
  | k + 1 => imgL v ms arm (setl v ms arm k)
structure Settle (v : Dv) (ms : List Int) (arm : Int) (k : Nat) : Prop where
  same : (setl v ms arm (k + 1)).length = (setl v ms arm k).length
  less : ∀ j, j < k → (setl v ms arm (j + 1)).length < (setl v ms arm j).length
section
variable {v : Dv} {ms : List Int} {arm : Int}
theorem held_rem (ok : v.Ok) {h : Int} (hh : held v (h, arm) = true) : h % lcmV v ∈ heldL v arm := by
  obtain ⟨cm, _⟩ := com_lcmV ok
  have L0 := cm.pos
  have m1 := Int.emod_nonneg h (show lcmV v ≠ 0 by omega)
  have m2 := Int.emod_lt_of_pos h L0
  have p := cm.plc (h % lcmV v) arm (h / lcmV v)
  rw [Int.emod_add_mul_ediv] at p
  exact heldN_mem.mpr ⟨m1, by omega, (plc_held p).trans hh⟩
theorem heldL_rem (ok : v.Ok) {x : Int} (h : x ∈ heldL v arm) : x % lcmV v = x := by
  obtain ⟨cm, _⟩ := com_lcmV ok
  have L0 := cm.pos
  obtain ⟨h1, h2, _⟩ := heldN_mem.mp h
  exact Int.emod_eq_of_lt h1 (by omega)
section
variable {K : Nat} (ok : v.Ok) (s0 : ms.sum = 0) (st : Settle v ms arm K)
include ok s0 st
end
end
end PD

/-! PD79: settling is told once -/
namespace PD
open PySem PySem.Spec PyProof.Rows L2 Evl
end PD

/-! PD80: rounds begun elsewhere -/
namespace PD
open PySem PySem.Spec PyProof.Rows L2 Evl
section
variable {v : Dv} {ms : List Int} {arm t b t' b' : Int}
theorem rp_same {ms ms' : List Int} (e : ∀ s, mvs v s ms = mvs v s ms') (s : Sv) : ∀ k : Nat, rp v ms s k = rp v ms' s k
  | 0 => rfl
  | k + 1 => by show mvs v (rp v ms s k) ms = mvs v (rp v ms' s k) ms'; rw [rp_same e s k, e]
theorem Mean.same {ms' : List Int} (e : ∀ s, mvs v s ms = mvs v s ms') (m : Mean v ms arm t b) : Mean v ms' arm t b := by
  refine ⟨m.t0, m.b0, m.b5, m.low, fun a n j cy => ?_⟩
  have r := rp_same e (a, arm)
  have cy' : Cyc v ms (a, arm) n j := ⟨cy.lt, by rw [r, r]; exact cy.eq, fun i k h1 h2 => by rw [r, r]; exact cy.inj i k h1 h2⟩
  have := m.eq a n j cy'
  rw [r, r] at this
  exact this
section
variable {A B : List Int}
def ph (v : Dv) (ms : List Int) (arm x : Int) : Int := (mvs v (x, arm) ms).1 % lcmV v
end
end
end PD

/-! PD81: the catch above; heights that are needed; ways by hands within a reach -/
namespace PD
open PySem PySem.Spec PyProof.Rows L2 Evl
abbrev uppT (c : Comb) (r : Int) : List Int := c.ts.filter fun t => decide (r ≤ t)
def roo (c : Comb) (n : Int) : Int := if uppT c (n % c.p) = [] then n - n % c.p + c.p + c.ts.headD 0 else n - n % c.p + (uppT c (n % c.p)).headD 0
theorem head_mem {l : List Int} (h : l ≠ []) : l.headD 0 ∈ l := by
  cases l with
  | nil => exact absurd rfl h
  | cons a r => exact List.mem_cons_self
theorem head_min {l : List Int} (up : l.Pairwise (· < ·)) {x : Int} (h : x ∈ l) : l.headD 0 ≤ x := by
  cases l with
  | nil => cases h
  | cons a r =>
    rcases List.mem_cons.mp h with e | e
    · show a ≤ x; omega
    · have := (List.pairwise_cons.mp up).1 x e
      show a ≤ x; omega
theorem roo_spec {c : Comb} (ok : c.Ok) (n : Int) : n ≤ roo c n ∧ caught c (roo c n) = true ∧ ∀ y, n ≤ y → y < roo c n → caught c y = false := by
  have hp : 0 < c.p := by have := ok.p1; omega
  have r0 := Int.emod_nonneg n (show c.p ≠ 0 by omega)
  have r1 := Int.emod_lt_of_pos n hp
  have hb : n = c.p * (n / c.p) + n % c.p := (Int.mul_ediv_add_emod n c.p).symm
  have res : ∀ m s : Int, ∀ k : Int, m = c.p * k + s → 0 ≤ s → s < c.p → caught c m = decide (s ∈ c.ts) := fun m s k e a b => by
    unfold caught
    rw [mod_of a b k e]
  unfold roo
  generalize n % c.p = r at r0 r1 hb
  generalize n / c.p = q at hb
  by_cases hu : uppT c r = []
  · rw [if_pos hu]
    have low : ∀ t ∈ c.ts, t < r := fun t ht => by
      by_cases z : r ≤ t
      · have : t ∈ uppT c r := List.mem_filter.mpr ⟨ht, decide_eq_true z⟩
        rw [hu] at this
        cases this
      · omega
    have hm := head_mem ok.ne
    have h0 := ok.low _ hm
    have h1 := ok.high _ hm
    have mul1 : c.p * (q + 1) = c.p * q + c.p := by rw [Int.mul_add, Int.mul_one]
    refine ⟨by omega, ?_, fun y y1 y2 => ?_⟩
    · rw [res _ (c.ts.headD 0) (q + 1) (by omega) h0 h1]
      exact decide_eq_true hm
    · by_cases hy : y < c.p * (q + 1)
      · rw [res y (y - c.p * q) q (by omega) (by omega) (by omega)]
        exact decide_eq_false fun z => by have := low _ z; omega
      · rw [res y (y - c.p * (q + 1)) (q + 1) (by omega) (by omega) (by omega)]
        exact decide_eq_false fun z => by have := head_min ok.up z; omega
  · rw [if_neg hu]
    have hm := head_mem hu
    have hm2 := List.mem_filter.mp hm
    have hr := of_decide_eq_true hm2.2
    have h0 := ok.low _ hm2.1
    have h1 := ok.high _ hm2.1
    have up : (uppT c r).Pairwise (· < ·) := ok.up.sublist (List.filter_sublist ..)
    refine ⟨by omega, ?_, fun y y1 y2 => ?_⟩
    · rw [res _ ((uppT c r).headD 0) q (by omega) h0 h1]
      exact decide_eq_true hm2.1
    · rw [res y (y - c.p * q) q (by omega) (by omega) (by omega)]
      refine decide_eq_false fun z => ?_
      have : y - c.p * q ∈ uppT c r := List.mem_filter.mpr ⟨z, decide_eq_true (by omega)⟩
      have := head_min up this
      omega
theorem roo_le {c : Comb} (ok : c.Ok) (n x : Int) : n ≤ flo c x ↔ roo c n ≤ x := by
  obtain ⟨a1, a2, a3⟩ := roo_spec ok n
  obtain ⟨b1, b2, b3⟩ := flo_spec ok x
  constructor
  · intro h
    rcases Int.lt_or_le (flo c x) (roo c n) with z | z
    · have := a3 _ h z
      rw [b2] at this
      cases this
    · omega
  · intro h
    rcases Int.lt_or_le (flo c x) n with z | z
    · have := b3 (roo c n) (by omega) h
      rw [a2] at this
      cases this
    · exact z
def minL : List Int → Int
  | [] => 0
  | [a] => a
  | a :: b :: r => min a (minL (b :: r))
theorem minL_spec : ∀ {l : List Int}, l ≠ [] → minL l ∈ l ∧ ∀ y ∈ l, minL l ≤ y
  | [], h => absurd rfl h
  | [a], _ => ⟨List.mem_cons_self, fun y hy => by rw [List.mem_singleton.mp hy]; exact Int.le_refl _⟩
  | a :: b :: r, _ => by
    obtain ⟨h1, h2⟩ := minL_spec (l := b :: r) (by simp)
    have e : minL (a :: b :: r) = min a (minL (b :: r)) := rfl
    rw [e]
    refine ⟨?_, fun y hy => ?_⟩
    · rcases Int.le_total a (minL (b :: r)) with z | z
      · rw [Int.min_eq_left z]; exact List.mem_cons_self
      · rw [Int.min_eq_right z]; exact List.mem_cons_of_mem _ h1
    · rcases List.mem_cons.mp hy with z | z
      · omega
      · have := h2 y z; omega
def needH (v : Dv) (N : Nat → Int) (a g : Nat) : Int := if g < a then min (N g + a - g) (roo v.1 (N g)) else if a < g then min (N g) (a + roo v.2 (N g - g)) else N a
def stepN (v : Dv) (R : Nat) (N : Nat → Int) (a : Nat) : Int := minL ((List.range (R + 1)).map (needH v N a))
def nrow (v : Dv) (R : Nat) (H : Int) : Nat → Nat → Int
  | 0, _ => H
  | k + 1, a => stepN v R (nrow v R H k) a
def goS (v : Dv) : Int → Nat → List Nat → Int × Nat
  | h, a, [] => (h, a)
  | h, a, g :: gs => goS v (reachH v h a g) g gs
section
variable {v : Dv} {R : Nat} {H : Int}
theorem goS_app (v : Dv) : ∀ (xs ys : List Nat) (h : Int) (a : Nat), goS v h a (xs ++ ys) = goS v (goS v h a xs).1 (goS v h a xs).2 ys
  | [], _, _, _ => rfl
  | g :: xs, ys, h, a => goS_app v xs ys _ g
theorem needH_iff (ok : v.Ok) (N : Nat → Int) (h : Int) (a g : Nat) : needH v N a g ≤ h ↔ N g ≤ reachH v h a g := by
  have s0 := slk_nn ok.2 (h - (a : Int))
  unfold needH reachH
  by_cases q : g < a
  · rw [if_pos q, if_pos q]
    have r := roo_le ok.1 (N g) h
    have e : slk v.1 h = h - flo v.1 h := rfl
    rw [e]
    constructor
    · intro z
      rcases Int.le_total (N g + a - g) (roo v.1 (N g)) with y | y
      · rw [Int.min_eq_left y] at z; omega
      · rw [Int.min_eq_right y] at z
        have := r.mpr z
        omega
    · intro z
      by_cases y : N g ≤ flo v.1 h
      · have := r.mp y; omega
      · omega
  · rw [if_neg q, if_neg q]
    by_cases p : a < g
    · rw [if_pos p]
      have r := roo_le ok.2 (N g - g) (h - a)
      have e : slk v.2 (h - (a : Int)) = h - a - flo v.2 (h - a) := rfl
      rw [e] at s0 ⊢
      constructor
      · intro z
        rcases Int.le_total (N g) (a + roo v.2 (N g - g)) with y | y
        · rw [Int.min_eq_left y] at z; omega
        · rw [Int.min_eq_right y] at z
          have := r.mpr (by omega)
          omega
      · intro z
        by_cases y : N g - g ≤ flo v.2 (h - a)
        · have := r.mp y; omega
        · omega
    · have e : g = a := by omega
      subst e
      rw [if_neg p]
      omega
theorem range_ne (R : Nat) (f : Nat → Int) : (List.range (R + 1)).map f ≠ [] := by simp
theorem step_iff (ok : v.Ok) (N : Nat → Int) (h : Int) (a : Nat) : stepN v R N a ≤ h ↔ ∃ g, g ≤ R ∧ N g ≤ reachH v h a g := by
  obtain ⟨m1, m2⟩ := minL_spec (range_ne R (needH v N a))
  constructor
  · intro z
    obtain ⟨g, hg, e⟩ := List.mem_map.mp m1
    exact ⟨g, by have := List.mem_range.mp hg; omega, (needH_iff ok N h a g).mp (by rw [e]; exact z)⟩
  · rintro ⟨g, hg, z⟩
    have := m2 _ (List.mem_map.mpr ⟨g, List.mem_range.mpr (by omega), rfl⟩)
    have := (needH_iff ok N h a g).mpr z
    show minL _ ≤ h
    omega
theorem reach_mono (ok : v.Ok) {h h' : Int} (hh : h ≤ h') (a g : Nat) : reachH v h a g ≤ reachH v h' a g := by
  have a2 := flo_mono ok.1 hh
  have b2 := flo_mono ok.2 (show h - (a : Int) ≤ h' - (a : Int) by omega)
  unfold reachH slk
  split <;> omega
theorem reach_own (ok : v.Ok) (h : Int) (a : Nat) : reachH v h a a = h := by
  have := slk_nn ok.2 (h - (a : Int))
  unfold reachH
  rw [if_neg (Nat.lt_irrefl _)]
  omega
theorem reach_near (ok : v.Ok) (h : Int) {a g R : Nat} (ha : a ≤ R) (hg : g ≤ R) : h - R ≤ reachH v h a g ∧ h - 24 ≤ reachH v h a g ∧ reachH v h a g ≤ h + R := by
  have s0 := slk_nn ok.2 (h - (a : Int))
  have s1 := slk_nn ok.1 h
  have s2 := slk_lt ok.1 h
  have := ok.1.p24
  unfold reachH
  split <;> omega
/-! ### a measure of rows -/
def rowM (lo : Int) (f : Nat → Int) : Nat → Nat
  | 0 => 0
  | n + 1 => rowM lo f n + (f n - lo).toNat
/-! ### the greatest heights -/
theorem inner_sound {tops b : List OI} {hd : Nat} {h : Int} (own : tops[hd]? = some (some h)) : ∀ {n : Nat} {g : Nat} {x : Int}, (innerF v b hd h n)[g]? = some (some x) → b[g]? = some (some x) ∨ ∃ hd' h', tops[hd']? = some (some h') ∧ x = reachH v h' hd' g
  | 0, _, _, e => .inl e
  | n + 1, g, x, e => by
    rw [innerF_succ] at e
    by_cases q : n = g
    · subst q
      have lt := (List.getElem?_eq_some_iff.mp e).1
      rw [updG_len] at lt
      obtain ⟨y, y1, y2, _⟩ := updG_at (r := reachH v h hd n) lt
      rw [y1] at e
      cases e
      rcases y2 with z | z
      · exact .inr ⟨hd, h, own, z⟩
      · exact inner_sound own z
    · rw [updG_ne q] at e
      exact inner_sound own e
theorem more_sound (ok : v.Ok) {tops : List OI} : ∀ {n : Nat} {g : Nat} {x : Int}, (moreF v tops n)[g]? = some (some x) → ∃ hd h, tops[hd]? = some (some h) ∧ x = reachH v h hd g
  | 0, g, x, e => ⟨g, x, e, (reach_own ok x g).symm⟩
  | n + 1, g, x, e => by
    rw [moreF_succ] at e
    unfold turnF at e
    split at e
    · rename_i h own
      rcases inner_sound own e with z | z
      · exact more_sound ok z
      · exact z
    · exact more_sound ok e
theorem inner_comp {b : List OI} {hd : Nat} {h : Int} : ∀ {n : Nat} {g : Nat}, g < n → g < b.length → ∃ x, (innerF v b hd h n)[g]? = some (some x) ∧ reachH v h hd g ≤ x
  | 0, _, h, _ => absurd h (Nat.not_lt_zero _)
  | n + 1, g, hg, hl => by
    rw [innerF_succ]
    by_cases q : n = g
    · subst q
      obtain ⟨x, x1, _, x3, _⟩ := updG_at (b := innerF v b hd h n) (g := n) (r := reachH v h hd n) (by rw [innerF_len]; exact hl)
      exact ⟨x, x1, x3⟩
    · rw [updG_ne q]
      exact inner_comp (by omega) hl
theorem turn_ge (tops b : List OI) (n : Nat) : Ge (turnF v tops b n) b := by
  unfold turnF
  split
  · exact (Ge.refl b).innerF v _ _ _
  · exact Ge.refl b
theorem more_comp {tops : List OI} {hd : Nat} {h : Int} (own : tops[hd]? = some (some h)) : ∀ {n : Nat}, hd < n → ∀ {g : Nat}, g < tops.length → ∃ x, (moreF v tops n)[g]? = some (some x) ∧ reachH v h hd g ≤ x
  | 0, h, _, _ => absurd h (Nat.not_lt_zero _)
  | n + 1, hn, g, hg => by
    rw [moreF_succ]
    by_cases q : n = hd
    · subst q
      unfold turnF
      rw [own]
      exact inner_comp hg (by rw [moreF_len]; exact hg)
    · obtain ⟨x, x1, x2⟩ := more_comp own (n := n) (by omega) hg
      obtain ⟨y, y1, y2⟩ := turn_ge (v := v) tops (moreF v tops n) n g x x1
      exact ⟨y, y1, by omega⟩
theorem it_sound (ok : v.Ok) {a : Nat} {h : Int} (ha : a ≤ R) : ∀ {n : Nat} {g : Nat} {x : Int}, (itT v (startT R a h) n)[g]? = some (some x) → ∃ gs : List Nat, gs.length = n ∧ (∀ y ∈ gs, y ≤ R) ∧ goS v h a gs = (x, g)
  | 0, g, x, e => by
    have lt := (List.getElem?_eq_some_iff.mp e).1
    have e' : (startT R a h)[g]? = some (some x) := e
    rw [show (itT v (startT R a h) 0).length = R + 1 from startT_len ..] at lt
    rw [startT_get (by omega)] at e'
    by_cases q : g = a
    · rw [if_pos q] at e'
      cases e'
      exact ⟨[], rfl, (fun _ z => nomatch z), by rw [q]; rfl⟩
    · rw [if_neg q] at e'
      cases e'
  | n + 1, g, x, e => by
    have lt := (List.getElem?_eq_some_iff.mp e).1
    rw [itT_len, startT_len] at lt
    obtain ⟨hd, h', own, ex⟩ := more_sound ok (tops := itT v (startT R a h) n) e
    obtain ⟨gs, e1, e2, e3⟩ := it_sound ok ha own
    refine ⟨gs ++ [g], by rw [List.length_append, e1]; rfl, fun y hy => ?_, ?_⟩
    · rcases List.mem_append.mp hy with z | z
      · exact e2 y z
      · rw [List.mem_singleton.mp z]; omega
    · rw [goS_app, e3]
      show (reachH v h' hd g, g) = (x, g)
      rw [ex]
theorem it_comp (ok : v.Ok) {a : Nat} {h : Int} (ha : a ≤ R) : ∀ (n : Nat) {gs : List Nat}, gs.length = n → (∀ y ∈ gs, y ≤ R) → ∃ x, (itT v (startT R a h) n)[(goS v h a gs).2]? = some (some x) ∧ (goS v h a gs).1 ≤ x
  | 0, gs, e, _ => by
    rw [List.length_eq_zero_iff.mp e]
    refine ⟨h, ?_, Int.le_refl _⟩
    show (startT R a h)[a]? = _
    rw [startT_get ha, if_pos rfl]
  | n + 1, gs, e, hg => by
    have ne : gs ≠ [] := fun z => by rw [z] at e; cases e
    have sp := (List.dropLast_concat_getLast ne).symm
    obtain ⟨gs', hgs'⟩ : ∃ q, gs.dropLast = q := ⟨_, rfl⟩
    obtain ⟨g, hgl⟩ : ∃ q, gs.getLast ne = q := ⟨_, rfl⟩
    rw [hgs', hgl] at sp
    have l : gs'.length = n := by rw [← hgs', List.length_dropLast, e]; rfl
    have sub : ∀ y ∈ gs', y ≤ R := fun y hy => hg y (by rw [sp]; exact List.mem_append_left _ hy)
    have gR : g ≤ R := hg g (by rw [sp]; exact List.mem_append_right _ List.mem_cons_self)
    obtain ⟨x, x1, x2⟩ := it_comp ok ha n l sub
    have lt := (List.getElem?_eq_some_iff.mp x1).1
    obtain ⟨y, y1, y2⟩ := more_comp (v := v) x1 lt (g := g) (by rw [itT_len, startT_len]; omega)
    rw [sp, goS_app]
    refine ⟨y, y1, ?_⟩
    have := reach_mono ok x2 (goS v h a gs').2 g
    show reachH v (goS v h a gs').1 (goS v h a gs').2 g ≤ y
    omega
/-! ### the least moves -/
inductive Grd (v : Dv) (R : Nat) (H : Int) : Nat → Int → Nat → List Nat → Prop
  | nil {h : Int} {a : Nat} : Grd v R H 0 h a []
  | cons {k : Nat} {h : Int} {a g : Nat} {gs : List Nat} (hg : g ≤ R) (hi : nrow v R H k g ≤ reachH v h a g) (lo : ∀ g', g' < g → ¬ nrow v R H k g' ≤ reachH v h a g') (t : Grd v R H k (reachH v h a g) g gs) : Grd v R H (k + 1) h a (g :: gs)
theorem Grd.len {k : Nat} {h : Int} {a : Nat} {gs : List Nat} (t : Grd v R H k h a gs) : gs.length = k := by
  induction t with
  | nil => rfl
  | cons _ _ _ _ ih => rw [List.length_cons, ih]
structure Few (v : Dv) (R : Nat) (H : Int) (k : Nat) (h : Int) (a : Nat) : Prop where
  hi : nrow v R H k a ≤ h
  lo : ∀ j, j < k → h < nrow v R H j a
theorem Few.next (ok : v.Ok) {k : Nat} {h : Int} {a g : Nat} (f : Few v R H (k + 1) h a) (hg : g ≤ R) (hi : nrow v R H k g ≤ reachH v h a g) : Few v R H k (reachH v h a g) g ∧ g ≠ a := by
  have key : ∀ j, j < k → reachH v h a g < nrow v R H j g := fun j hj => by
    rcases Int.lt_or_le (reachH v h a g) (nrow v R H j g) with z | z
    · exact z
    · have : nrow v R H (j + 1) a ≤ h := (step_iff ok _ _ _).mpr ⟨g, hg, z⟩
      have := f.lo (j + 1) (by omega)
      omega
  refine ⟨⟨hi, key⟩, fun e => ?_⟩
  subst e
  rw [reach_own ok] at hi
  have := f.lo k (Nat.lt_succ_self k)
  omega
def movesOf : Nat → List Nat → List Int
  | _, [] => []
  | a, g :: gs => ((g : Int) - (a : Int)) :: movesOf g gs
theorem reach_mv (ok : v.Ok) (h : Int) {a g : Nat} (ne : g ≠ a) : mv v (h, (a : Int)) ((g : Int) - (a : Int)) = (reachH v h a g, (g : Int)) := by
  unfold reachH
  by_cases q : g < a
  · rw [if_pos q, mv_down' (by omega)]
    refine Prod.ext ?_ (by show (a : Int) + ((g : Int) - a) = g; omega)
    show h - min (-((g : Int) - a)) (slk v.1 h) = h - min ((a : Int) - g) (slk v.1 h)
    congr 2
    omega
  · rw [if_neg q, mv_up' (by omega)]
    refine Prod.ext ?_ (by show (a : Int) + ((g : Int) - a) = g; omega)
    show h + ((g : Int) - a) - min ((g : Int) - a) (slk v.2 (h - a)) = h + max ((g : Int) - a - slk v.2 (h - a)) 0
    omega
end
end PD

/-! PD82: a loop over a list from its end -/
namespace PD
open PySem PySem.Spec PyProof.Rows L2 Evl
section
variable {c : Cn} {K : PySem.W.Frag} {ds : DS} {pl : List D} {t : TS} {E : EE}
end
end PD

/-! PD83: rows of heights as data; told best moves -/
namespace PD
open PySem PySem.Spec PyProof.Rows L2 Evl
abbrev rowI (R : Nat) (f : Nat → Int) : List Int := (List.range (R + 1)).map f
abbrev rowN (R : Nat) (f : Nat → Int) : D := .list ((rowI R f).map PyData.int)
def TellF (v : Dv) (R : Nat) (H h : Int) (a : Nat) (some' : Nat → D → Prop) (d : D) : Prop := (d = .none ∧ ∀ j, h < nrow v R H j a) ∨ ∃ k, k ≤ 10000 ∧ Few v R H k h a ∧ some' k d
end PD

/-! PD84: for over a range with a step; states of ways -/
namespace PD
open PySem PySem.Spec PyProof.Rows L2 Evl
section
variable {c : Cn} {K : PySem.W.Frag} {ds : DS} {pl : List D} {t : TS} {E : EE} {tr : TA}
end
section
variable {v : Dv} {R : Nat} {H : Int}
def statS (v : Dv) : Int → Nat → List Nat → List Sv
  | _, _, [] => []
  | h, a, g :: gs => (reachH v h a g, (g : Int)) :: statS v (reachH v h a g) g gs
def NoStay : Nat → List Nat → Prop
  | _, [] => True
  | a, g :: gs => g ≠ a ∧ NoStay g gs
theorem Grd.under (ok : v.Ok) {k : Nat} {h : Int} {a : Nat} {gs : List Nat} (aR : a ≤ R) (t : Grd v R H k h a gs) (f : Few v R H k h a) : ∀ s ∈ ((h, (a : Int)) :: statS v h a gs).dropLast, s.1 < H := by
  induction t with
  | nil => intro s hs; cases hs
  | @cons k h a g gs hg hi lo t ih =>
    obtain ⟨f2, ne⟩ := f.next ok hg hi
    intro s hs
    have e : ((h, (a : Int)) :: statS v h a (g :: gs)).dropLast = (h, (a : Int)) :: ((reachH v h a g, (g : Int)) :: statS v (reachH v h a g) g gs).dropLast := rfl
    rw [e] at hs
    rcases List.mem_cons.mp hs with z | z
    · rw [z]; exact f.lo 0 (Nat.succ_pos k)
    · exact ih hg f2 s z
theorem goS_bd (ok : v.Ok) (hR : R ≤ 24) : ∀ (gs : List Nat) {h : Int} {a : Nat}, a ≤ R → (∀ g ∈ gs, g ≤ R) → (goS v h a gs).1.natAbs ≤ h.natAbs + 24 * gs.length
  | [], _, _, _, _ => by simp [goS]
  | g :: gs, h, a, ha, hg => by
    have g1 := hg g List.mem_cons_self
    have r := reach_near ok h ha g1
    have := goS_bd ok hR gs (h := reachH v h a g) g1 fun x hx => hg x (List.mem_cons_of_mem _ hx)
    rw [List.length_cons]
    show (goS v (reachH v h a g) g gs).1.natAbs ≤ _
    omega
end
end PD

/-! PD85: moves told in parts -/
namespace PD
open PySem PySem.Spec PyProof.Rows L2 Evl
end PD

/-! PD86: pumping as a way; a higher bar's rows; a way that climbs -/
namespace PD
open PySem PySem.Spec PyProof.Rows L2 Evl
section
variable {v : Dv} {R : Nat}
def altG (a g : Nat) : Nat → List Nat
  | 0 => []
  | n + 1 => altG a g n ++ [g, a]
end
end PD

/-! PD87: two names from a list of two; ways by one more -/
namespace PD
open PySem PySem.Spec PyProof.Rows L2 Evl
end PD

/-! PD88: the law's end with bounded cells; products of cells; a device upside down -/
namespace PD
open PySem PySem.Spec PyProof.Rows L2 Evl
open Builtin.Int (intBits)
section
variable {X : Cx}
end
section
variable {c : Cn} {K : PySem.W.Frag} {ds : DS} {Φ : W → List D → Prop}
end
section
variable {P : Program} {w : World} {K : PySem.W.Frag} {mg : Str → Option Value} {base : Heap} {f : Addr} {fd : FuncData} {ps : List Str} {k : Nat}
def spLawB (K : PySem.W.Frag) : Sp := fun vs H Q _ => ∃ (a : Addr) (ns : List Int), vs = [.ref a] ∧ SqL K H a (ns.map V.int) ∧ ns.length ≤ 63 ∧ (∀ z ∈ ns, intBits z ≤ 1048576) ∧ ∀ H', Q (.bl true) H'
end
/-! ### a device upside down -/
structure Ovr (R : Nat) (v u : Dv) : Prop where
  g : ∀ y, caught u.1 y = caught v.1 (-y)
  h : ∀ y, caught u.2 y = caught v.2 (-y - (R : Int))
theorem Ovr.symm {R : Nat} {v u : Dv} (o : Ovr R v u) : Ovr R u v := ⟨fun y => by rw [o.g, Int.neg_neg], fun y => by rw [o.h]; congr 1; omega⟩
section
variable {v u : Dv} {R : Nat}
def revG (R : Nat) : Nat → List Nat → List Nat
  | _, [] => []
  | a, g :: gs => revG R g gs ++ [R - a]
end
end PD

/-! PD89: a list from its end -/
namespace PD
open PySem PySem.Spec PyProof.Rows L2 Evl
theorem RA.app2 {G : Hp} {us : List V} {vs : List V} {xs ys : List D} (h : RA G us xs) (k : RA G vs ys) : RA G (us ++ vs) (xs ++ ys) := by
  induction xs generalizing us with
  | nil =>
    cases h
    exact k
  | cons x xs ih =>
    cases h with
    | cons r b => exact .cons r (ih b)
theorem RA.rev {G : Hp} : ∀ {xs : List D} {us : List V}, RA G us xs → RA G us.reverse xs.reverse
  | [], us, h => by
    cases h
    exact .nil
  | x :: xs, us, h => by
    cases h with
    | cons r b =>
      rw [List.reverse_cons, List.reverse_cons]
      exact (RA.rev b).app2 (.cons r .nil)
/-! ### ways upside down, their moves and states -/
section
variable {v : Dv} {R : Nat}
def lastH : Nat → List Nat → Nat
  | a, [] => a
  | _, g :: gs => lastH g gs
end
end PD

/-! PD90: a comb upside down -/
namespace PD
open PySem PySem.Spec PyProof.Rows L2 Evl
end PD

/-! PD91: moves and rounds upside down -/
namespace PD
open PySem PySem.Spec PyProof.Rows L2 Evl
section
variable {v u : Dv}
end
end PD

/-! PD92: plain combs -/
namespace PD
open PySem PySem.Spec PyProof.Rows L2 Evl
def Plain (b : Comb) : Prop := b.Ok ∧ ∀ q, 1 ≤ q → q < b.p → b.p % q = 0 → ¬ Per b q
theorem per_own (b : Comb) : Per b b.p := fun n => by
  have := caught_up (c := b) n 1
  rw [Int.mul_one] at this
  exact this
theorem per_gcd {c : Comb} (p q : Nat) : Per c (p : Int) → Per c (q : Int) → Per c ((Nat.gcd p q : Nat) : Int) := by
  refine Nat.gcd.induction p q (fun n => ?_) fun m n m0 ih => ?_
  · intro _ hq
    rw [Nat.gcd_zero_left]
    exact hq
  · intro hm hn
    rw [Nat.gcd_rec]
    refine ih (fun x => ?_) hm
    have e := Int.emod_add_mul_ediv (n : Int) (m : Int)
    have e2 : ((n % m : Nat) : Int) = (n : Int) % (m : Int) := Int.natCast_emod n m
    rw [e2, show x + (n : Int) % (m : Int) = x + (n : Int) + (m : Int) * (-((n : Int) / (m : Int))) by rw [Int.mul_neg]; omega, hm.all, hn]
theorem Plain.uniq {b c : Comb} (pb : Plain b) (pc : Plain c) (same : ∀ n, caught b n = caught c n) : b = c := by
  have b1 := pb.1.p1
  have c1 := pc.1.p1
  have pcb : Per b c.p := fun n => by rw [same, same]; exact per_own c n
  have g := per_gcd (c := b) b.p.toNat c.p.toNat (by rw [Int.toNat_of_nonneg (by omega)]; exact per_own b) (by rw [Int.toNat_of_nonneg (by omega)]; exact pcb)
  obtain ⟨g9, hg9⟩ : ∃ y, Nat.gcd b.p.toNat c.p.toNat = y := ⟨_, rfl⟩
  have d1 : g9 ∣ b.p.toNat := by rw [← hg9]; exact Nat.gcd_dvd_left _ _
  have d2 : g9 ∣ c.p.toNat := by rw [← hg9]; exact Nat.gcd_dvd_right _ _
  have g1 : 0 < g9 := by rw [← hg9]; exact Nat.gcd_pos_of_pos_left _ (by omega)
  have l1 := Nat.le_of_dvd (by omega) d1
  have l2 := Nat.le_of_dvd (by omega) d2
  rw [hg9] at g
  have m1 : b.p % (g9 : Int) = 0 := by
    have := Int.natCast_emod b.p.toNat g9
    rw [Nat.mod_eq_zero_of_dvd d1, Int.toNat_of_nonneg (by omega)] at this
    exact this.symm
  have m2 : c.p % (g9 : Int) = 0 := by
    have := Int.natCast_emod c.p.toNat g9
    rw [Nat.mod_eq_zero_of_dvd d2, Int.toNat_of_nonneg (by omega)] at this
    exact this.symm
  have e1 : (g9 : Int) = b.p := by
    rcases Int.lt_or_eq_of_le (show (g9 : Int) ≤ b.p by omega) with z | z
    · exact absurd g (pb.2 g9 (by omega) z m1)
    · exact z
  have e2 : (g9 : Int) = c.p := by
    rcases Int.lt_or_eq_of_le (show (g9 : Int) ≤ c.p by omega) with z | z
    · exact absurd (fun n => by rw [← same, ← same]; exact g n) (pc.2 g9 (by omega) z m2)
    · exact z
  have ep : b.p = c.p := e1.symm.trans e2
  have et : b.ts = c.ts := asc_ext pb.1.up pc.1.up fun x => by
    constructor
    · intro hx
      have h0 := pb.1.low x hx
      have h1 := pb.1.high x hx
      exact (caught_in pc.1 h0 (by omega)).mp (by rw [← same]; exact (caught_in pb.1 h0 h1).mpr hx)
    · intro hx
      have h0 := pc.1.low x hx
      have h1 := pc.1.high x hx
      exact (caught_in pb.1 h0 (by omega)).mp (by rw [same]; exact (caught_in pc.1 h0 h1).mpr hx)
  cases b
  cases c
  cases ep
  cases et
  rfl
theorem plain_of {c b : Comb} (ob : b.Ok) (same : ∀ n, caught b n = caught c n) (h1 : b.p ≤ c.p) (h2 : c.p % b.p = 0) (h3 : ∀ q, 1 ≤ q → q < b.p → c.p % q = 0 → ¬ Per c q) : Plain b := by
  refine ⟨ob, fun q q1 qb qd per => h3 q q1 qb ?_ fun n => by rw [← same, ← same]; exact per n⟩
  have e1 := Int.mul_ediv_add_emod c.p b.p
  have e2 := Int.mul_ediv_add_emod b.p q
  rw [h2, Int.add_zero] at e1
  rw [qd, Int.add_zero] at e2
  rw [← e1, ← e2, Int.mul_assoc]
  exact Int.mul_emod_right _ _
theorem eqv_comb (b c : Comb) : PyData.eqv b.d c.d = true ↔ b = c := by
  have e : PyData.eqv b.d c.d = ((b.p == c.p) && (PyData.eqv (.list (b.ts.map PyData.int)) (.list (c.ts.map PyData.int)) && true)) := rfl
  rw [e, eqv_ints, Bool.and_true, Bool.and_eq_true, decide_eq_true_eq, beq_iff_eq]
  constructor
  · rintro ⟨h1, h2⟩
    cases b
    cases c
    cases h1
    cases h2
    rfl
  · rintro rfl
    exact ⟨rfl, rfl⟩
theorem eqv_dev (v w : Dv) : PyData.eqv v.d w.d = true ↔ v = w := by
  have e : PyData.eqv v.d w.d = (PyData.eqv v.1.d w.1.d && (PyData.eqv v.2.d w.2.d && true)) := rfl
  rw [e, Bool.and_true, Bool.and_eq_true, eqv_comb, eqv_comb]
  exact ⟨fun ⟨h1, h2⟩ => Prod.ext h1 h2, fun h => ⟨congrArg Prod.fst h, congrArg Prod.snd h⟩⟩
def AlkS (v : Dv) (s : Sv) (w : Dv) (t : Sv) : Prop := (∀ n, caught v.1 (n + s.1) = caught w.1 (n + t.1)) ∧ ∀ n, caught v.2 (n + (s.1 - s.2)) = caught w.2 (n + (t.1 - t.2))
end PD

/-! PD93: a comb seen from elsewhere -/
namespace PD
open PySem PySem.Spec PyProof.Rows L2 Evl
theorem shift_key {p : Int} (d y t : Int) (t0 : 0 ≤ t) (t1 : t < p) : (t - d) % p = y % p ↔ (y + d) % p = t := by
  constructor
  · intro h
    obtain ⟨k, e⟩ := mod_eq_shift h
    rw [show y + d = t + p * k by omega, Int.add_mul_emod_self_left]
    exact Int.emod_eq_of_lt t0 t1
  · intro h
    have e := Int.emod_add_mul_ediv (y + d) p
    rw [h] at e
    rw [show y = t - d + p * ((y + d) / p) by omega, Int.add_mul_emod_self_left]
theorem shift_ok {c : Comb} (ok : c.Ok) (d : Int) {S : List Int} (pm : S.Perm (c.ts.map fun t => (t - d) % c.p)) (up : S.Pairwise (· ≤ ·)) :
    (Comb.mk c.p S).Ok ∧ ∀ y, caught (Comb.mk c.p S) y = caught c (y + d) := by
  have p0 : 0 < c.p := by have := ok.p1; omega
  have mem : ∀ z, z ∈ S ↔ ∃ t ∈ c.ts, (t - d) % c.p = z := fun z => by
    rw [pm.mem_iff, List.mem_map]
  have nd0 : (c.ts.map fun t => (t - d) % c.p).Pairwise (· ≠ ·) := by
    rw [List.pairwise_map]
    refine List.Pairwise.imp_of_mem ?_ ok.up
    intro t t' ht ht' lt e
    have h1 := (shift_key (p := c.p) d (t' - d) t (ok.low t ht) (ok.high t ht)).mp e
    have h2 := (shift_key (p := c.p) d (t' - d) t' (ok.low t' ht') (ok.high t' ht')).mp rfl
    omega
  have nd : S.Pairwise (· ≠ ·) := (pm.symm.pairwise nd0 fun h => Ne.symm h)
  refine ⟨⟨ok.p1, ok.p24, fun e => ?_, fun z hz => ?_, fun z hz => ?_, ?_⟩, fun y => ?_⟩
  · obtain ⟨t, r, et⟩ : ∃ t r, c.ts = t :: r := by
      cases q : c.ts with
      | nil => exact absurd q ok.ne
      | cons a r => exact ⟨a, r, rfl⟩
    have : (t - d) % c.p ∈ S := (mem _).mpr ⟨t, by rw [et]; exact List.mem_cons_self, rfl⟩
    have e' : S = [] := e
    rw [e'] at this
    cases this
  · obtain ⟨t, _, rfl⟩ := (mem z).mp hz
    exact Int.emod_nonneg _ (by omega)
  · obtain ⟨t, _, rfl⟩ := (mem z).mp hz
    exact Int.emod_lt_of_pos _ p0
  · exact (up.and nd).imp fun ⟨a, b⟩ => by
      have a' := a
      have b' := b
      omega
  · unfold caught
    show decide (y % c.p ∈ S) = decide ((y + d) % c.p ∈ c.ts)
    congr 1
    refine propext ((mem _).trans ⟨fun ⟨t, ht, e⟩ => ?_, fun h => ⟨_, h, ?_⟩⟩)
    · rw [(shift_key (p := c.p) d y t (ok.low t ht) (ok.high t ht)).mp e]
      exact ht
    · exact (shift_key (p := c.p) d y _ (ok.low _ h) (ok.high _ h)).mpr rfl
end PD

/-! PD94: new things handed back from within a loop; new plain combs -/
namespace PD
open PySem PySem.Spec PyProof.Rows L2 Evl
section
variable {c : Cn} {K : PySem.W.Frag} {ds : DS} {pl : List D} {t u : TS} {D' : Ends} {G0 : Hp} {E : EE} {tr : TA} {te : TE} {tt : TT}
theorem wsk_if (h : WT c tt ds pl fun b p1 => if b = true then WSK c t ds p1 D' G0 else WSK c u ds p1 D' G0) : WSK c (tIfS tt t u) ds pl D' G0 := fun G σ H hs e =>
  h G σ H hs _ fun b G2 H2 p2 h2 e2 g2 => by
    cases b with
    | true => exact (show WSK c t ds p2 D' G0 from g2) G2 σ H2 h2 (e.trans e2)
    | false => exact (show WSK c u ds p2 D' G0 from g2) G2 σ H2 h2 (e.trans e2)
theorem wsk_ret {Φ : W → List D → Prop} (h : WE c te ds pl Φ) (k : ∀ v G1 σ H1 w p1, HS c G1 σ H1 ds p1 → Ex G0 G1 → VW G1 H1 c v w → Φ w p1 → D'.rt v H1) : WSK c (tRet te) ds pl D' G0 := fun G σ H hs e =>
  h G σ H hs _ fun v G1 H1 w p1 h1 e1 f1 g1 => k v G1 σ H1 w p1 h1 (e.trans e1) f1 g1
theorem wsk_retW {F : List D → (Hp → V → Prop) → Prop} {Ek : XK} (hc : c.pool = none) (ha : WA c tr ds pl fun xs p1 => F xs fun P v => ∀ H', Ex c.H0 H' → Ex P H' → (∀ a o, P a = some o → c.H0 a = none) → D'.rt v H') (mono : ∀ xs k k', F xs k → (∀ P v, k P v → k' P v) → F xs k') :
    WSK c (tRet (tCall (spW F) [] Ek tr)) ds pl D' G0 := fun G σ H hs e =>
  ha G σ H hs _ fun vs G1 H1 xs p1 h1 e1 f1 g1 => by
    rw [List.append_nil]
    refine ⟨G1, xs, h1.sub, f1, mono xs _ _ g1 fun P v hk H' a1 a2 a3 => hk H' (fun a o z => ?_) a2 fun a o z => (h1.none_of (a3 a o z)).2.2.2.2⟩
    exact a1 _ _ (h1.keep a o (by rw [hc]; simp) z)
theorem wsk_forR2 {j : Nat} (I : Nat → DS → List D → Prop) (lo hi : Int) (h : WA c tr ds pl fun xs p1 => xs = [.int lo, .int hi] ∧ (-(2 ^ 62) ≤ lo ∧ lo < 2 ^ 62 ∧ -(2 ^ 62) ≤ hi ∧ hi < 2 ^ 62) ∧ I 0 ds p1)
    (hs : ∀ (i : Nat) ds' pl', i < (hi - lo).toNat → I i ds' pl' → ∀ D2 : Ends, D2.rt = D'.rt → (∀ G3 σ3 H3 ds3 pl3, HS c G3 σ3 H3 ds3 pl3 → Ex G0 G3 → I (i + 1) ds3 pl3 → D2.nx σ3 H3) → WSK c t (ds'.set j (some (.d (.int (lo + i))))) pl' D2 G0)
    (hd : ∀ ds' pl', I (hi - lo).toNat ds' pl' → WSK c u ds' pl' D' G0) : WSK c (tSeq (tFor (iRng2 tr) (gName j) t) u) ds pl D' G0 := fun G σ H h0 e0 => h G σ H h0 _ fun vs G1 H1 xs p1 h1 e1 f1 ⟨e, b1, g1⟩ => by
  subst e
  cases f1 with
  | cons r1 b =>
    cases b with
    | cons r2 b =>
      cases b
      cases r1
      cases r2
      refine ⟨lo, hi, rfl, b1, ?_⟩
      refine for_range (lo := lo) (n := (hi - lo).toNat) (g := gName j) (D := { D' with nx := u D' }) (fun i σ' H' => ∃ G' ds' pl', HS c G' σ' H' ds' pl' ∧ Ex G0 G' ∧ I i ds' pl') ⟨G1, _, p1, h1, e0.trans e1, g1⟩ ?_ ?_
      · rintro i σ' H' hx ⟨G', ds', pl', h2, e2, g2⟩
        refine hs i ds' pl' hx g2 { nx := fun σ' H' => ∃ G' ds' pl', HS c G' σ' H' ds' pl' ∧ Ex G0 G' ∧ I (i + 1) ds' pl', rt := D'.rt, bk := u D', ct := fun σ' H' => ∃ G' ds' pl', HS c G' σ' H' ds' pl' ∧ Ex G0 G' ∧ I (i + 1) ds' pl' } rfl ?_ G' _ H' (h2.set (w := .d (.int (lo + i))) (R.int _) fun xs z => by cases z) e2
        exact fun G3 σ3 H3 ds3 pl3 h3 e3 g3 => ⟨G3, ds3, pl3, h3, e3, g3⟩
      · rintro σ' H' ⟨G', ds', pl', h2, e2, g2⟩
        exact hd _ _ g2 G' σ' H' h2 e2
end
/-! ### promises of new combs and devices -/
def underF : List D → (Hp → V → Prop) → Prop := fun ds k => ∃ a : List Int × Int, ds = [.list (a.1.map PyData.int), .int a.2] ∧ a.1.length ≤ 24 ∧ ∀ la, k (one la (.lst ((under a.1 a.2).map V.int))) (.ref la)
theorem underF_mono : ∀ xs k k', underF xs k → (∀ P v, k P v → k' P v) → underF xs k' := fun _ _ _ ⟨a, e, l, h⟩ g => ⟨a, e, l, fun la => g _ _ (h la)⟩
def PlC (c b : Comb) : Prop := b.Ok ∧ (∀ n, caught b n = caught c n) ∧ b.p ≤ c.p ∧ c.p % b.p = 0 ∧ ∀ q, 1 ≤ q → q < b.p → c.p % q = 0 → ¬ Per c q
def plainF : List D → (Hp → V → Prop) → Prop := fun ds k => ∃ c : Comb, ds = [c.d] ∧ c.Ok ∧ ∀ (b : Comb) a la, a ≠ la → PlC c b → k (combP b a la) (.ref a)
theorem plainF_mono : ∀ xs k k', plainF xs k → (∀ P v, k P v → k' P v) → plainF xs k' := fun _ _ _ ⟨c, e, o, h⟩ g => ⟨c, e, o, fun b a la n q => g _ _ (h b a la n q)⟩
def shiftF : List D → (Hp → V → Prop) → Prop := fun ds k => ∃ z : Comb × Int, ds = [z.1.d, .int z.2] ∧ z.1.Ok ∧ ∀ (b : Comb) a la, a ≠ la → (Plain b ∧ ∀ n, caught b n = caught z.1 (n + z.2)) → k (combP b a la) (.ref a)
def PlD (v : Dv) (s : Sv) (b : Dv) : Prop := Plain b.1 ∧ Plain b.2 ∧ (∀ n, caught b.1 n = caught v.1 (n + s.1)) ∧ ∀ n, caught b.2 n = caught v.2 (n + (s.1 - s.2))
def devF (pre : Dv → Sv → Prop) : List D → (Hp → V → Prop) → Prop := fun ds k => ∃ z : Dv × Sv, ds = [z.1.d, z.2.d] ∧ pre z.1 z.2 ∧ ∀ (b : Dv) t a e la lb, Mir (b.2, b.1) t a e la lb → PlD z.1 z.2 b → k (mirP (b.2, b.1) t a e la lb) (.ref t)
theorem devF_mono {pre : Dv → Sv → Prop} : ∀ xs k k', devF pre xs k → (∀ P v, k P v → k' P v) → devF pre xs k' := fun _ _ _ ⟨z, e, o, h⟩ g => ⟨z, e, o, fun b t a e' la lb m q => g _ _ (h b t a e' la lb m q)⟩
end PD

/-! PD95: rows of catches; the least places that look alike -/
namespace PD
open PySem PySem.Spec PyProof.Rows L2 Evl
def catL (c : Comb) (s : Int) : List Bool := (List.range c.p.toNat).map fun (k : Nat) => caught c (s + (k : Int))
def begT (c : Comb) (s w : Int) : List Int := ((List.range w.toNat).filter fun (k : Nat) => caught c (s + (k : Int))).map fun (k : Nat) => (k : Int)
end PD

/-! PD96: rows of catches as data -/
namespace PD
open PySem PySem.Spec PyProof.Rows L2 Evl
end PD

/-! PD97: the least pitch is there -/
namespace PD
open PySem PySem.Spec PyProof.Rows L2 Evl
end PD

/-! PD98: combs that come again; plain combs at hand -/
namespace PD
open PySem PySem.Spec PyProof.Rows L2 Evl
def rptT (c : Comb) : Nat → List Int
  | 0 => []
  | i + 1 => rptT c i ++ c.ts.map fun t => (i : Int) * c.p + t
abbrev tenA : Comb := ⟨10, [0, 3]⟩
abbrev tenB : Comb := ⟨10, [0]⟩
abbrev tenC : Comb := ⟨10, [0, 7]⟩
abbrev tenD : Comb := ⟨10, [7]⟩
abbrev five : Comb := ⟨5, [0]⟩
end PD

/-! PD99: three in one assignment, all data -/
namespace PD
open PySem PySem.Spec PyProof.Rows L2 Evl
end PD

/-! PD100: two bars over one hand -/
namespace PD
open PySem PySem.Spec PyProof.Rows L2 Evl
def pl3 (v : Dv) (s : Sv) (g : Int) : D := .tuple [.int (plc v s).1, .int (plc v s).2, .int g]
def gapM (v : Dv) (s : Sv) (g : Int) (ms : List Int) : Int := (mvs v (s.1 + g, s.2) ms).1 - (mvs v s ms).1
theorem plc_own (v : Dv) (s : Sv) : plc v ((plc v s).1, (plc v s).1 - (plc v s).2) = plc v s := by
  unfold plc lf
  ext
  · exact Int.emod_emod _ _
  · show (s.1 % v.1.p - (s.1 % v.1.p - (s.1 - s.2) % v.2.p)) % v.2.p = (s.1 - s.2) % v.2.p
    rw [show s.1 % v.1.p - (s.1 % v.1.p - (s.1 - s.2) % v.2.p) = (s.1 - s.2) % v.2.p by omega]
    exact Int.emod_emod _ _
theorem plc_up {v : Dv} {s t : Sv} (h : plc v s = plc v t) (g : Int) : plc v (s.1 + g, s.2) = plc v (t.1 + g, t.2) := by
  have h1 : s.1 % v.1.p = t.1 % v.1.p := congrArg Prod.fst h
  have h2 : (s.1 - s.2) % v.2.p = (t.1 - t.2) % v.2.p := congrArg Prod.snd h
  unfold plc lf
  ext
  · show (s.1 + g) % v.1.p = (t.1 + g) % v.1.p
    rw [Int.add_emod, h1, ← Int.add_emod]
  · show (s.1 + g - s.2) % v.2.p = (t.1 + g - t.2) % v.2.p
    rw [show s.1 + g - s.2 = s.1 - s.2 + g by omega, show t.1 + g - t.2 = t.1 - t.2 + g by omega, Int.add_emod, h2, ← Int.add_emod]
theorem gap_same {v : Dv} (ok : v.Ok) {s t : Sv} (h : plc v s = plc v t) (g : Int) (ms : List Int) : gapM v s g ms = gapM v t g ms := by
  have a1 := mvs_shift ok ms h
  have a2 := mvs_shift ok ms (plc_up h g)
  unfold gapM
  rw [a1, a2]
  show _ = (mvs v (s.1 + g, s.2) ms).1 + (t.1 + g - (s.1 + g)) - ((mvs v s ms).1 + (t.1 - s.1))
  omega
theorem plc_same {v : Dv} (ok : v.Ok) {s t : Sv} (h : plc v s = plc v t) (ms : List Int) : plc v (mvs v s ms) = plc v (mvs v t ms) := by
  rw [mvs_shift ok ms h]
  have h1 : s.1 % v.1.p = t.1 % v.1.p := congrArg Prod.fst h
  have h2 : (s.1 - s.2) % v.2.p = (t.1 - t.2) % v.2.p := congrArg Prod.snd h
  obtain ⟨k1, e1⟩ := mod_eq_shift h1
  obtain ⟨k2, e2⟩ := mod_eq_shift h2
  unfold plc lf
  ext
  · show (mvs v s ms).1 % v.1.p = ((mvs v s ms).1 + (t.1 - s.1)) % v.1.p
    rw [show (mvs v s ms).1 + (t.1 - s.1) = (mvs v s ms).1 + v.1.p * k1 by omega, Int.add_mul_emod_self_left]
  · show ((mvs v s ms).1 - (mvs v s ms).2) % v.2.p = ((mvs v s ms).1 + (t.1 - s.1) - ((mvs v s ms).2 + (t.2 - s.2))) % v.2.p
    rw [show (mvs v s ms).1 + (t.1 - s.1) - ((mvs v s ms).2 + (t.2 - s.2)) = (mvs v s ms).1 - (mvs v s ms).2 + v.2.p * k2 by omega, Int.add_mul_emod_self_left]
end PD

/-! PD101: a dict of places that a loop fills; rounds of two bars -/
namespace PD
open PySem PySem.Spec PyProof.Rows L2 Evl
abbrev pkN (ks : List Int) : List Key := ks.map Sum.inl
section
variable {c : Cn} {K : PySem.W.Frag} {ds : DS} {pl : List D} {t u body : TS} {D' : Ends} {G0 : Hp} {E : EE} {tr : TA} {te : TE} {tt : TT} {Φ : W → List D → Prop}
theorem keyN_at {G H : Hp} {σ : L2.St} {ip : Nat} {ks : List Int} (hs : HS c G σ H ds pl) (hi : ds[ip]? = some (some (.d (.tuple (ks.map PyData.int))))) : ∃ q, σ[ip]? = some (some (.ref q)) ∧ H q = some (.tup ((pkN ks).map kV)) := by
  obtain ⟨v, e1, e2⟩ := hs.slots ip _ hi
  have e2' : R G v (.tuple (ks.map PyData.int)) := e2
  cases e2' with
  | tup a b =>
    have eb := RA.ints b
    subst eb
    refine ⟨_, e1, ?_⟩
    rw [hs.sub _ _ a]
    congr 2
    rw [List.map_map]
    rfl
end
/-! ### rounds of two bars -/
section
variable {v : Dv} {ms : List Int}
def gapR (v : Dv) (ms : List Int) (s : Sv) (g : Int) (i : Nat) : Int := (rp v ms (s.1 + g, s.2) i).1 - (rp v ms s i).1
def plcK (v : Dv) (ms : List Int) (s : Sv) (g : Int) (i : Nat) : List Int := [(plc v (rp v ms s i)).1, (plc v (rp v ms s i)).2, gapR v ms s g i]
def JoinR (v : Dv) (ms : List Int) (s : Sv) (g : Int) : Option Nat → Prop
  | some n => gapR v ms s g n = 0 ∧ ∀ i, i < n → gapR v ms s g i ≠ 0
  | none => ∀ i, gapR v ms s g i ≠ 0
def cod3 (v : Dv) (ms : List Int) (s : Sv) (g : Int) (i : Nat) : Int := ((gapR v ms s g i - lcmV v * (g / lcmV v)) * 24 + (plc v (rp v ms s i)).1) * 24 + (plc v (rp v ms s i)).2
end
end PD

/-! PD102: a test that hands back; the last statement of a loop's body -/
namespace PD
open PySem PySem.Spec PyProof.Rows L2 Evl
section
variable {c : Cn} {K : PySem.W.Frag} {ds : DS} {pl : List D} {t u : TS} {D' D2 : Ends} {G0 : Hp} {tt : TT}
theorem wsk_ifS (h : WT c tt ds pl fun b p1 => if b = true then (∀ D1 : Ends, D1.rt = D'.rt → WSK c t ds p1 D1 G0) else WSK c u ds p1 D' G0) : WSK c (tSeq (tIfS tt t tNext) u) ds pl D' G0 := fun G σ H hs e =>
  h G σ H hs _ fun b G2 H2 p2 h2 e2 g2 => by
    cases b with
    | true => exact (show ∀ D1 : Ends, D1.rt = D'.rt → WSK c t ds p2 D1 G0 from g2) { D' with nx := u D' } rfl G2 σ H2 h2 (e.trans e2)
    | false => exact (show WSK c u ds p2 D' G0 from g2) G2 σ H2 h2 (e.trans e2)
theorem wsk_last (h : WS c t ds pl (onlyNx fun ds' pl' => ∀ G σ H, HS c G σ H ds' pl' → Ex G0 G → D2.nx σ H)) : WSK c t ds pl D2 G0 := fun G σ H hs e =>
  h G σ H hs D2 ⟨fun G' σ' H' ds' pl' h' e' w => w G' σ' H' h' (e.trans e'), fun _ _ _ _ _ _ _ _ _ _ w => w.elim, fun _ _ _ _ _ _ _ w => w.elim, fun _ _ _ _ _ _ _ w => w.elim⟩
end
end PD

/-! PD103: slacks within their list -/
namespace PD
open PySem PySem.Spec PyProof.Rows L2 Evl
theorem sl_mem' {c : Comb} (ok : c.Ok) (n : Int) : slk c n ∈ sl c := by
  have p1 := ok.p1
  have r0 := Int.emod_nonneg n (show c.p ≠ 0 by omega)
  have r1 := Int.emod_lt_of_pos n (show 0 < c.p by omega)
  have e := Int.emod_add_mul_ediv n c.p
  have f := flo_shift ok (n % c.p) (n / c.p)
  rw [e] at f
  refine List.mem_map.mpr ⟨(n % c.p).toNat, List.mem_range.mpr (by omega), ?_⟩
  rw [show (((n % c.p).toNat : Nat) : Int) = n % c.p by omega]
  unfold slk
  omega
theorem sl_rng {c : Comb} (ok : c.Ok) {y : Int} (h : y ∈ sl c) : 0 ≤ y ∧ y < 24 := by
  obtain ⟨r, _, rfl⟩ := List.mem_map.mp h
  have := slk_nn ok (r : Int)
  have := slk_lt ok (r : Int)
  have := ok.p24
  exact ⟨by omega, by omega⟩
end PD

/-! PD104: moves that join -/
namespace PD
open PySem PySem.Spec PyProof.Rows L2 Evl
def JoinM (v : Dv) (s : Sv) (g : Int) : Option (List Int) → Prop
  | some ms => gapM v s g ms = 0 ∧ (∀ m ∈ ms, m ≠ 0) ∧ ∀ ns : List Int, (∀ m ∈ ns, m ≠ 0) → gapM v s g ns = 0 → ms.length ≤ ns.length
  | none => ∀ ns : List Int, (∀ m ∈ ns, m ≠ 0) → gapM v s g ns ≠ 0
def oL : Option (List Int) → D
  | some ms => .list (ms.map PyData.int)
  | none => .none
theorem gapM_far {v : Dv} (ok : v.Ok) {s : Sv} {g : Int} (h : lcmV v ≤ g) (ms : List Int) : lcmV v ≤ gapM v s g ms := by
  obtain ⟨cm, _⟩ := com_lcmV ok
  have e := mvs_shift ok ms (s := s) (t := (s.1 + lcmV v * 1, s.2)) (cm.plc s.1 s.2 1)
  have m := mvs_mono ok ms (s := (s.1 + lcmV v * 1, s.2)) (t := (s.1 + g, s.2)) (by show s.1 + lcmV v * 1 ≤ s.1 + g; omega) rfl
  rw [e] at m
  have m : (mvs v s ms).1 + (s.1 + lcmV v * 1 - s.1) ≤ (mvs v (s.1 + g, s.2) ms).1 := m
  unfold gapM
  omega
end PD

/-! PD105: single moves enough -/
namespace PD
open PySem PySem.Spec PyProof.Rows L2 Evl
section
variable {v : Dv}
theorem up_short (ok : v.Ok) {S : Int} (hS : ∀ n, slk v.2 n ≤ S) {m m' : Int} (h1 : S < m) (h2 : S < m') (e : m % v.1.p = m' % v.1.p) (s : Sv) : (mv v s m).1 - (mv v s m').1 = m - m' ∧ plc v (mv v s m) = plc v (mv v s m') := by
  have S0 := slk_nn ok.2 (lf s)
  have Ss := hS (lf s)
  have a1 : mv v s m = (s.1 + m - slk v.2 (lf s), s.2 + m) := by rw [mv_up' (by omega)]; ext <;> (try rfl); show s.1 + m - min m (slk v.2 (lf s)) = _; omega
  have a2 : mv v s m' = (s.1 + m' - slk v.2 (lf s), s.2 + m') := by rw [mv_up' (by omega)]; ext <;> (try rfl); show s.1 + m' - min m' (slk v.2 (lf s)) = _; omega
  rw [a1, a2]
  refine ⟨by show s.1 + m - slk v.2 (lf s) - (s.1 + m' - slk v.2 (lf s)) = m - m'; omega, ?_⟩
  unfold plc
  ext
  · show (s.1 + m - slk v.2 (lf s)) % v.1.p = (s.1 + m' - slk v.2 (lf s)) % v.1.p
    obtain ⟨k, ek⟩ := mod_eq_shift e
    rw [show s.1 + m' - slk v.2 (lf s) = s.1 + m - slk v.2 (lf s) + v.1.p * k by omega, Int.add_mul_emod_self_left]
  · show (s.1 + m - slk v.2 (lf s) - (s.2 + m)) % v.2.p = (s.1 + m' - slk v.2 (lf s) - (s.2 + m')) % v.2.p
    congr 1
    omega
theorem down_short (ok : v.Ok) {S : Int} (hS : ∀ n, slk v.1 n ≤ S) {m m' : Int} (h1 : S < m) (h2 : S < m') (e : m % v.2.p = m' % v.2.p) (s : Sv) : (mv v s (-m)).1 = (mv v s (-m')).1 ∧ plc v (mv v s (-m)) = plc v (mv v s (-m')) := by
  have S0 := slk_nn ok.1 s.1
  have Ss := hS s.1
  have a1 : mv v s (-m) = (s.1 - slk v.1 s.1, s.2 - m) := by rw [mv_down' (by omega)]; ext <;> (try rfl); show s.1 - min (- -m) (slk v.1 s.1) = _; omega
  have a2 : mv v s (-m') = (s.1 - slk v.1 s.1, s.2 - m') := by rw [mv_down' (by omega)]; ext <;> (try rfl); show s.1 - min (- -m') (slk v.1 s.1) = _; omega
  rw [a1, a2]
  refine ⟨rfl, ?_⟩
  unfold plc
  ext
  · rfl
  · show (s.1 - slk v.1 s.1 - (s.2 - m)) % v.2.p = (s.1 - slk v.1 s.1 - (s.2 - m')) % v.2.p
    obtain ⟨k, ek⟩ := mod_eq_shift e
    rw [show s.1 - slk v.1 s.1 - (s.2 - m') = s.1 - slk v.1 s.1 - (s.2 - m) + v.2.p * k by omega, Int.add_mul_emod_self_left]
theorem short_ex {S p m : Int} (p0 : 0 < p) (h : S + p < m) : ∃ m', S < m' ∧ m' ≤ S + p ∧ m % p = m' % p := by
  have r0 := Int.emod_nonneg (m - S - 1) (show p ≠ 0 by omega)
  have r1 := Int.emod_lt_of_pos (m - S - 1) p0
  have e := Int.emod_add_mul_ediv (m - S - 1) p
  refine ⟨S + 1 + (m - S - 1) % p, by omega, by omega, ?_⟩
  rw [show m = S + 1 + (m - S - 1) % p + p * ((m - S - 1) / p) by omega, Int.add_mul_emod_self_left]
  congr 2
  rw [show S + 1 + (m - S - 1) % p + p * ((m - S - 1) / p) = m by omega]
theorem single_enough (ok : v.Ok) {A B : Nat} (hA : ∀ n, slk v.2 n + v.1.p ≤ (A : Int)) (hB : ∀ n, slk v.1 n + v.2.p ≤ (B : Int)) {m : Int} (m0 : m ≠ 0) (s : Sv) (g : Int) :
    ∃ m' : Int, ((∃ k : Nat, k < A ∧ m' = 1 + (k : Int)) ∨ ∃ k : Nat, k < B ∧ m' = -(1 + (k : Int))) ∧ plc v (mv v s m) = plc v (mv v s m') ∧ gapM v s g [m] = gapM v s g [m'] := by
  have p1 := ok.1.p1
  have q1 := ok.2.p1
  rcases Int.lt_or_le 0 m with z | z
  · by_cases w : m ≤ (A : Int)
    · exact ⟨m, .inl ⟨(m - 1).toNat, by omega, by omega⟩, rfl, rfl⟩
    · obtain ⟨m', h1, h2, h3⟩ := short_ex (S := (A : Int) - v.1.p) (p := v.1.p) (m := m) (by omega) (by omega)
      have hS : ∀ n, slk v.2 n ≤ (A : Int) - v.1.p := fun n => by have := hA n; omega
      have a0 := slk_nn ok.2 0
      have a1 := hS 0
      obtain ⟨u1, u2⟩ := up_short ok hS (show (A : Int) - v.1.p < m by omega) h1 h3 s
      obtain ⟨w1, w2⟩ := up_short ok hS (show (A : Int) - v.1.p < m by omega) h1 h3 (s.1 + g, s.2)
      refine ⟨m', .inl ⟨(m' - 1).toNat, by omega, by omega⟩, u2, ?_⟩
      show (mv v (s.1 + g, s.2) m).1 - (mv v s m).1 = (mv v (s.1 + g, s.2) m').1 - (mv v s m').1
      omega
  · obtain ⟨n, rfl⟩ : ∃ n, m = -n := ⟨-m, by omega⟩
    by_cases w : n ≤ (B : Int)
    · exact ⟨-n, .inr ⟨(n - 1).toNat, by omega, by omega⟩, rfl, rfl⟩
    · obtain ⟨m', h1, h2, h3⟩ := short_ex (S := (B : Int) - v.2.p) (p := v.2.p) (m := n) (by omega) (by omega)
      have hS : ∀ n, slk v.1 n ≤ (B : Int) - v.2.p := fun n => by have := hB n; omega
      have a0 := slk_nn ok.1 0
      have a1 := hS 0
      obtain ⟨u1, u2⟩ := down_short ok hS (show (B : Int) - v.2.p < n by omega) h1 h3 s
      obtain ⟨w1, w2⟩ := down_short ok hS (show (B : Int) - v.2.p < n by omega) h1 h3 (s.1 + g, s.2)
      refine ⟨-m', .inr ⟨(m' - 1).toNat, by omega, by omega⟩, u2, ?_⟩
      show (mv v (s.1 + g, s.2) (-n)).1 - (mv v s (-n)).1 = (mv v (s.1 + g, s.2) (-m')).1 - (mv v s (-m')).1
      omega
end
end PD

/-! PD106: gaps behind lists of moves; lists of single moves enough -/
namespace PD
open PySem PySem.Spec PyProof.Rows L2 Evl
section
variable {v : Dv}
theorem beside (v : Dv) (s : Sv) (g : Int) (ms : List Int) : mvs v (s.1 + g, s.2) ms = ((mvs v s ms).1 + gapM v s g ms, (mvs v s ms).2) := by
  ext
  · show _ = (mvs v s ms).1 + gapM v s g ms
    unfold gapM
    omega
  · show (mvs v (s.1 + g, s.2) ms).2 = (mvs v s ms).2
    rw [mvs_hand, mvs_hand]
theorem gapM_app (v : Dv) (s : Sv) (g : Int) (xs ys : List Int) : gapM v s g (xs ++ ys) = gapM v (mvs v s xs) (gapM v s g xs) ys := by
  show (mvs v (s.1 + g, s.2) (xs ++ ys)).1 - (mvs v s (xs ++ ys)).1 = (mvs v ((mvs v s xs).1 + gapM v s g xs, (mvs v s xs).2) ys).1 - (mvs v (mvs v s xs) ys).1
  rw [mvs_app, mvs_app, beside]
theorem gapM_cons (v : Dv) (s : Sv) (g m : Int) (ms : List Int) : gapM v s g (m :: ms) = gapM v (mv v s m) (gapM v s g [m]) ms := gapM_app v s g [m] ms
def Single (A B : Nat) (m : Int) : Prop := (∃ k : Nat, k < A ∧ m = 1 + (k : Int)) ∨ ∃ k : Nat, k < B ∧ m = -(1 + (k : Int))
theorem Single.nz {A B : Nat} {m : Int} (h : Single A B m) : m ≠ 0 := by
  rcases h with ⟨k, _, e⟩ | ⟨k, _, e⟩ <;> omega
theorem singles_list (ok : v.Ok) {A B : Nat} (hA : ∀ n, slk v.2 n + v.1.p ≤ (A : Int)) (hB : ∀ n, slk v.1 n + v.2.p ≤ (B : Int)) : ∀ (ms : List Int) (s : Sv) (g : Int), (∀ m ∈ ms, m ≠ 0) →
    ∃ ns : List Int, ns.length = ms.length ∧ (∀ m ∈ ns, Single A B m) ∧ plc v (mvs v s ms) = plc v (mvs v s ns) ∧ gapM v s g ms = gapM v s g ns
  | [], _, _, _ => ⟨[], rfl, (fun _ z => nomatch z), rfl, rfl⟩
  | m :: ms, s, g, h => by
    obtain ⟨m', h1, h2, h3⟩ := single_enough ok hA hB (h m List.mem_cons_self) s g
    obtain ⟨ns, n1, n2, n3, n4⟩ := singles_list ok hA hB ms (mv v s m') (gapM v s g [m']) fun x hx => h x (List.mem_cons_of_mem _ hx)
    refine ⟨m' :: ns, by rw [List.length_cons, List.length_cons, n1], fun x hx => ?_, ?_, ?_⟩
    · rcases List.mem_cons.mp hx with rfl | hx
      · exact h1
      · exact n2 x hx
    · show plc v (mvs v (mv v s m) ms) = plc v (mvs v (mv v s m') ns)
      rw [plc_same ok h2 ms, n3]
    · rw [gapM_cons v s g m ms, gapM_cons v s g m' ns, h3, gap_same ok h2, n4]
theorem gapM_stays (ok : v.Ok) {s : Sv} {g : Int} {xs ys : List Int} (h : lcmV v ≤ gapM v s g xs) : lcmV v ≤ gapM v s g (xs ++ ys) := by
  rw [gapM_app]
  exact gapM_far ok h ys
structure Lev (v : Dv) (A B : Nat) (s : Sv) (g : Int) (n : Nat) (P : (Int × Int) × Int) : Prop where
  ex : ∃ ms : List Int, ms.length = n ∧ (∀ m ∈ ms, Single A B m) ∧ (plc v (mvs v s ms), gapM v s g ms) = P ∧ gapM v s g ms < lcmV v
  least : ∀ ms : List Int, ms.length < n → (∀ m ∈ ms, Single A B m) → (plc v (mvs v s ms), gapM v s g ms) ≠ P
theorem Lev.uniq {A B : Nat} {s : Sv} {g : Int} {n k : Nat} {P : (Int × Int) × Int} (h : Lev v A B s g n P) (h' : Lev v A B s g k P) : n = k := by
  obtain ⟨ms, e1, e2, e3, _⟩ := h.ex
  obtain ⟨ns, f1, f2, f3, _⟩ := h'.ex
  rcases Nat.lt_trichotomy n k with z | z | z
  · exact absurd e3 (h'.least ms (by omega) e2)
  · exact z
  · exact absurd f3 (h.least ns (by omega) f2)
end
end PD

/-! PD107: {place: value}, its key a tuple -/
namespace PD
open PySem PySem.Spec PyProof.Rows L2 Evl
def tDisp1T (tk tv : TE) : TE := fun σ H Q => ∀ p, H p = none → tPairs [(tk, tv)] σ (upd H p (.dT [])) fun ps H2 => H2 p = some (.dT []) ∧ ∃ b k v, ps = [(V.ref b, v)] ∧ H2 b = some (.tup (k.map kV)) ∧ Q (.ref p) (upd H2 p (.dT [(k, v)]))
theorem pe_disp1T {X : Cx} {pos : Pos} {e f : Expr} {tk tv : TE} (hu : X.A.units + 1 < cLine) (he : PE X e tk) (hf : PE X f tv) : PE X (.Dict [some e] [f] pos) (tDisp1T tk tv) := by
  refine ⟨fun pins s σ H Q I q => ?_⟩
  have hn := I.hok.fresh (Nat.le_refl s.heap.objs.size)
  have I1 := I.laid (a := s.heap.objs.size) (o := .dT []) (h' := s.heap.push { cls := .type "dict", data := .dict #[] }) (t' := s.toks) (fun _ _ q => Heap.get?_push_of_some _ q) (Nat.le_refl _) (dt_empty s.heap I.big)
  have pairs : PPs X pos [some e] [f] [(tk, tv)] := pps_cons he hf pps_nil
  have len := pairTrees_length [some e] [f] X.env pos rfl rfl
  rw [arm_eval_Dict, zip_pairTrees [some e] [f] X.env pos rfl rfl, dictDisplay_pairs _ (fun z => by rw [z] at len; cases len) (by rw [len]; show 1 < 17; decide)]
  refine wpAny_bind (wpAny_standAt (wpAny_bind (wpAny_subDictH (knd := tupleKind (mixKind X.prog X.w)) (show X.A.units < cLine by omega) (by rw [len]; show 1 ≤ 15; decide) ?_)))
  refine wpAny_mono (pairs.run pins _ σ _ _ I1 (q _ hn)) (fun ws s2 ⟨ps, H2, I2, rel, ep, b, k, v, e1, eb, q2⟩ => ?_) fun _ _ z => z
  subst e1
  cases rel with
  | @cons _ u _ us h0 t =>
    cases t
    obtain ⟨u1, u2⟩ := u
    obtain ⟨r1, r2⟩ := h0
    have r1 : u1 = Value.ref b := r1
    subst r1
    obtain ⟨z, hd, xs, rel0, dd⟩ := dt_of I2.hok ep
    cases rel0
    refine ⟨[(k, b, u2)], ⟨rfl, rfl, key_of I2.hok eb, trivial⟩, dd, fun h' tk' dd' hs => wpAny_pure ?_⟩
    obtain ⟨o, es, en, hq, h2, h3, h4, h6, h5⟩ := dd'
    refine ⟨.ref s.heap.objs.size, _, ?_, rfl, q2⟩
    have kt : KT H2 (putK [] k v) (storedH [] k b u2) := KT.put .nil k eb r2
    refine d_write I2 (by rw [ep]; exact True.intro) hs ⟨o, hq⟩ ⟨by show 1 ≤ sizeLine; decide, hd, _, kt.keeps fun c ys ec => ?_, o, es, en, hq, h2, h3, h4, h5⟩
    rw [upd_ne (ne_of ec ep (fun z => nomatch z))]
    exact ec
end PD

/-! PD108: the search by levels: each level from the one ahead, the first gap of 0 is the least -/
namespace PD
open PySem PySem.Spec PyProof.Rows L2 Evl
section
variable {v : Dv}
def pOf (v : Dv) (s : Sv) (g : Int) (ms : List Int) : (Int × Int) × Int := (plc v (mvs v s ms), gapM v s g ms)
theorem pOf_app (ok : v.Ok) {s : Sv} {g : Int} {xs ys : List Int} (h : pOf v s g xs = pOf v s g ys) (ms : List Int) : pOf v s g (xs ++ ms) = pOf v s g (ys ++ ms) := by
  have h1 : plc v (mvs v s xs) = plc v (mvs v s ys) := congrArg Prod.fst h
  have h2 : gapM v s g xs = gapM v s g ys := congrArg Prod.snd h
  unfold pOf
  rw [mvs_app, mvs_app, plc_same ok h1 ms, gapM_app, gapM_app, h2, gap_same ok h1]
theorem lev_some {A B : Nat} {s : Sv} {g : Int} {P : (Int × Int) × Int} : ∀ (n : Nat) (ms : List Int), ms.length = n → (∀ m ∈ ms, Single A B m) → pOf v s g ms = P → P.2 < lcmV v → ∃ k, k ≤ n ∧ Lev v A B s g k P := by
  intro n
  induction n using Nat.strongRecOn with
  | ind n ih =>
    intro ms e1 e2 e3 e4
    by_cases q : ∃ ns : List Int, ns.length < n ∧ (∀ m ∈ ns, Single A B m) ∧ pOf v s g ns = P
    · obtain ⟨ns, q1, q2, q3⟩ := q
      obtain ⟨k, k1, k2⟩ := ih ns.length q1 ns rfl q2 q3 e4
      exact ⟨k, by omega, k2⟩
    · exact ⟨n, Nat.le_refl _, ⟨ms, e1, e2, e3, by rw [show gapM v s g ms = P.2 from congrArg Prod.snd e3]; exact e4⟩, fun ns n1 n2 n3 => q ⟨ns, n1, n2, n3⟩⟩
theorem Lev.lt {A B : Nat} {s : Sv} {g : Int} {n : Nat} {P : (Int × Int) × Int} (h : Lev v A B s g n P) : P.2 < lcmV v := by
  obtain ⟨ms, _, _, e3, e4⟩ := h.ex
  rw [← show gapM v s g ms = P.2 from congrArg Prod.snd e3]
  exact e4
theorem lev_zero {A B : Nat} {s : Sv} {g : Int} {P : (Int × Int) × Int} (hg : g < lcmV v) : Lev v A B s g 0 P ↔ P = pOf v s g [] := by
  have g0 : gapM v s g [] = g := by
    show s.1 + g - s.1 = g
    omega
  constructor
  · intro h
    obtain ⟨ms, e1, _, e3, _⟩ := h.ex
    rw [List.length_eq_zero_iff.mp e1] at e3
    exact e3.symm
  · rintro rfl
    exact ⟨⟨[], rfl, (fun _ z => nomatch z), rfl, by rw [g0]; exact hg⟩, fun _ z => absurd z (Nat.not_lt_zero _)⟩
theorem Lev.pred (ok : v.Ok) {A B : Nat} {s : Sv} {g : Int} {n : Nat} {P : (Int × Int) × Int} (h : Lev v A B s g (n + 1) P) :
    ∃ xs m, xs.length = n ∧ (∀ x ∈ xs, Single A B x) ∧ Single A B m ∧ Lev v A B s g n (pOf v s g xs) ∧ pOf v s g (xs ++ [m]) = P := by
  obtain ⟨ms, e1, e2, e3, e4⟩ := h.ex
  have e3 : pOf v s g ms = P := e3
  have hne : ms ≠ [] := fun z => by rw [z] at e1; cases e1
  have es := List.dropLast_concat_getLast hne
  obtain ⟨xs, hx⟩ : ∃ xs, ms.dropLast = xs := ⟨_, rfl⟩
  obtain ⟨m, hm⟩ : ∃ m, ms.getLast hne = m := ⟨_, rfl⟩
  rw [hx, hm] at es
  subst es
  have lx : xs.length = n := by
    rw [List.length_append] at e1
    exact Nat.succ.inj e1
  have sx : ∀ x ∈ xs, Single A B x := fun x z => e2 x (List.mem_append_left _ z)
  have sm : Single A B m := e2 m (List.mem_append_right _ List.mem_cons_self)
  refine ⟨xs, m, lx, sx, sm, ⟨⟨xs, lx, sx, rfl, ?_⟩, fun ys y1 y2 y3 => ?_⟩, e3⟩
  · rcases Int.lt_or_le (gapM v s g xs) (lcmV v) with z | z
    · exact z
    · have := gapM_stays ok (ys := [m]) z
      omega
  · have y3 : pOf v s g ys = pOf v s g xs := y3
    refine h.least (ys ++ [m]) (by rw [List.length_append]; show ys.length + 1 < n + 1; omega) (fun x z => ?_) ?_
    · rcases List.mem_append.mp z with z | z
      · exact y2 x z
      · rw [List.mem_singleton.mp z]; exact sm
    · show pOf v s g (ys ++ [m]) = P
      rw [pOf_app ok y3, e3]
theorem Lev.succ (ok : v.Ok) {A B : Nat} {s : Sv} {g : Int} {n : Nat} {xs : List Int} {m : Int} (hx : xs.length = n) (sx : ∀ x ∈ xs, Single A B x) (sm : Single A B m)
    (lt : (pOf v s g (xs ++ [m])).2 < lcmV v) (new : ∀ k, k ≤ n → ¬ Lev v A B s g k (pOf v s g (xs ++ [m]))) : Lev v A B s g (n + 1) (pOf v s g (xs ++ [m])) := by
  obtain ⟨k, k1, k2⟩ := lev_some (v := v) (s := s) (g := g) (A := A) (B := B) (n + 1) (xs ++ [m]) (by rw [List.length_append, hx]; rfl) (fun x z => by
    rcases List.mem_append.mp z with z | z
    · exact sx x z
    · rw [List.mem_singleton.mp z]; exact sm) rfl lt
  rcases Nat.lt_or_ge n k with z | z
  · rw [show n + 1 = k by omega]; exact k2
  · exact absurd k2 (new k z)
theorem Lev.none_up (ok : v.Ok) {A B : Nat} {s : Sv} {g : Int} {n : Nat} (h : ∀ P, ¬ Lev v A B s g n P) : ∀ k P, ¬ Lev v A B s g (n + k) P
  | 0, P => h P
  | k + 1, P => fun z => by
    obtain ⟨xs, m, _, _, _, l, _⟩ := Lev.pred ok (show Lev v A B s g (n + k + 1) P from z)
    exact Lev.none_up ok h k _ l
theorem join_some (ok : v.Ok) {A B : Nat} (hA : ∀ n, slk v.2 n + v.1.p ≤ (A : Int)) (hB : ∀ n, slk v.1 n + v.2.p ≤ (B : Int)) {s : Sv} {g : Int} {ms : List Int} (sm : ∀ m ∈ ms, Single A B m) (g0 : gapM v s g ms = 0) (lp : 0 < lcmV v)
    (none : ∀ k, k < ms.length → ∀ P, Lev v A B s g k P → P.2 ≠ 0) : JoinM v s g (some ms) := by
  refine ⟨g0, fun m z => (sm m z).nz, fun ns nz h0 => ?_⟩
  obtain ⟨ns', l1, l2, _, l4⟩ := singles_list ok hA hB ns s g nz
  have z0 : (pOf v s g ns').2 = 0 := l4.symm.trans h0
  obtain ⟨k, k1, k2⟩ := lev_some (v := v) (s := s) (g := g) ns'.length ns' rfl l2 rfl (by rw [z0]; exact lp)
  rcases Nat.lt_or_ge k ms.length with z | z
  · exact absurd z0 (none k z _ k2)
  · omega
theorem join_none (ok : v.Ok) {A B : Nat} (hA : ∀ n, slk v.2 n + v.1.p ≤ (A : Int)) (hB : ∀ n, slk v.1 n + v.2.p ≤ (B : Int)) {s : Sv} {g : Int} {n : Nat} (lp : 0 < lcmV v)
    (no : ∀ k, k < n → ∀ P, Lev v A B s g k P → P.2 ≠ 0) (emp : ∀ P, ¬ Lev v A B s g n P) : JoinM v s g none := by
  intro ns nz h0
  obtain ⟨ns', l1, l2, _, l4⟩ := singles_list ok hA hB ns s g nz
  have z0 : (pOf v s g ns').2 = 0 := l4.symm.trans h0
  obtain ⟨k, k1, k2⟩ := lev_some (v := v) (s := s) (g := g) ns'.length ns' rfl l2 rfl (by rw [z0]; exact lp)
  rcases Nat.lt_or_ge k n with z | z
  · exact no k z _ k2 z0
  · obtain ⟨j, rfl⟩ : ∃ j, k = n + j := ⟨k - n, by omega⟩
    exact Lev.none_up ok emp j _ k2
end
end PD

/-! PD109: dicts of places whose values bear data: read, written, loops that see what is there -/
namespace PD
open PySem PySem.Spec PyProof.Rows L2 Evl
section
variable {c : Cn} {K : PySem.W.Frag} {ds : DS} {pl : List D} {t u body : TS} {D' : Ends} {G0 : Hp} {E : EE}
theorem wsk_dgetSet {i id ip : Nat} {p : Addr} {kvs : List (List Key × V)} {ks : List Int} {x : V} {d : D} (h1 : ds[id]? = some (some (.v (.ref p)))) (h2 : ds[ip]? = some (some (.d (.tuple (ks.map PyData.int))))) (hv : valV kvs (pkN ks) = some x) (hx : R G0 x d)
    (h : WSK (c.pinP (one p (.dT kvs))) u (ds.set i (some (.d d))) pl D' G0) : WSK (c.pinP (one p (.dT kvs))) (tSeq (tAsg (tDGet (tVar id) (tVar ip)) (gName i)) u) ds pl D' G0 := fun G σ H hs e0 => by
  obtain ⟨z1, z2⟩ := dict_at hs h1 one_at
  obtain ⟨kq, y1, y2⟩ := keyN_at hs h2
  have g := DGet.t z2 y2
  rw [hv] at g
  refine ⟨_, z1, _, y1, p, _, rfl, g, ?_⟩
  exact h G _ H (hs.set (w := .d d) (hx.up e0) fun xs z => by cases z) e0
theorem wsk_dputD {te : TE} {id ip : Nat} {p : Addr} {kvs : List (List Key × V)} {ks : List Int} (F : Fresh c (one p (.dT kvs))) (h1 : ds[id]? = some (some (.v (.ref p)))) (h2 : ds[ip]? = some (some (.d (.tuple (ks.map PyData.int))))) (hl : kvs.length < sizeLine)
    (h : WE (c.pinP (one p (.dT kvs))) te ds pl (isD fun d p1 => ∀ x G1, Ex G0 G1 → R G1 x d → Fresh c (one p (.dT (putK kvs (pkN ks) x))) → WSK (c.pinP (one p (.dT (putK kvs (pkN ks) x)))) u ds p1 D' G1)) :
    WSK (c.pinP (one p (.dT kvs))) (tSeq (sDPut (tVar id) (tVar ip) te) u) ds pl D' G0 := fun G σ H hs e0 => h G σ H hs _ fun v G1 H1 w p1 hs1 e1 q z => by
  match w, q, z with
  | .d d, q, z =>
    obtain ⟨z1, z2⟩ := dict_at hs1 h1 one_at
    obtain ⟨kq, y1, y2⟩ := keyN_at hs1 h2
    obtain ⟨F2, hs2⟩ := hs1.repin (o' := .dT (putK kvs (pkN ks) v)) F one_at
    rw [one_upd] at F2 hs2
    exact ⟨_, z1, _, y1, p, _, rfl, DPut.t z2 y2 hl, z v G1 (e0.trans e1) q F2 G1 σ _ hs2 (Ex.refl _)⟩
theorem wsk_while_dG {tt : TT} {p : Addr} {kvs0 : List (List Key × V)} (I : Hp → Nat → List (List Key × V) → DS → List D → Prop) (m0 : Nat) (F : Fresh c (one p (.dT kvs0))) (h0 : ∀ G, Ex G0 G → I G m0 kvs0 ds pl)
    (step : ∀ G1 m kvs ds' pl', Ex G0 G1 → Fresh c (one p (.dT kvs)) → I G1 m kvs ds' pl' → WT (c.pinP (one p (.dT kvs))) tt ds' pl' fun b p1 =>
      (b = false → WSK (c.pinP (one p (.dT kvs))) u ds' p1 D' G1) ∧
      (b = true → ∀ D2 : Ends, D2.rt = D'.rt → (∀ G3 σ3 H3 ds3 pl3 kvs3 m', m' < m → Fresh c (one p (.dT kvs3)) → HS (c.pinP (one p (.dT kvs3))) G3 σ3 H3 ds3 pl3 → Ex G1 G3 → I G3 m' kvs3 ds3 pl3 → D2.nx σ3 H3 ∧ D2.ct σ3 H3) →
        WSK (c.pinP (one p (.dT kvs))) body ds' p1 D2 G1)) :
    WSK (c.pinP (one p (.dT kvs0))) (tSeq (tWhile tt body) u) ds pl D' G0 := fun G σ H hs e0 =>
  ⟨fun m σ' H' => ∃ G' ds' pl' kvs, Fresh c (one p (.dT kvs)) ∧ HS (c.pinP (one p (.dT kvs))) G' σ' H' ds' pl' ∧ Ex G0 G' ∧ I G' m kvs ds' pl', ⟨m0, G, ds, pl, kvs0, F, hs, e0, h0 G e0⟩, by
    rintro m σ' H' ⟨G', ds', pl', kvs, F1, h1, e1, g1⟩
    refine step G' m kvs ds' pl' e1 F1 g1 G' σ' H' h1 _ fun b G2 H2 p1 h2 e2 q => ?_
    cases b with
    | false => exact q.1 rfl G2 σ' H2 h2 e2
    | true =>
      refine ⟨fun σ3 H3 => ∃ m', m' < m ∧ ∃ G' ds' pl' kvs, Fresh c (one p (.dT kvs)) ∧ HS (c.pinP (one p (.dT kvs))) G' σ3 H3 ds' pl' ∧ Ex G0 G' ∧ I G' m' kvs ds' pl', fun σ3 H3 ⟨m', l, q⟩ => ⟨m', l, q⟩, ?_⟩
      refine q.2 rfl { nx := fun σ3 H3 => ∃ m', m' < m ∧ ∃ G' ds' pl' kvs, Fresh c (one p (.dT kvs)) ∧ HS (c.pinP (one p (.dT kvs))) G' σ3 H3 ds' pl' ∧ Ex G0 G' ∧ I G' m' kvs ds' pl', rt := D'.rt, bk := u D', ct := fun σ3 H3 => ∃ m', m' < m ∧ ∃ G' ds' pl' kvs, Fresh c (one p (.dT kvs)) ∧ HS (c.pinP (one p (.dT kvs))) G' σ3 H3 ds' pl' ∧ Ex G0 G' ∧ I G' m' kvs ds' pl' } rfl ?_ G2 σ' H2 h2 e2
      exact fun G3 σ3 H3 ds3 pl3 kvs3 m' l F3 h3 e3 g3 => ⟨⟨m', l, G3, ds3, pl3, kvs3, F3, h3, e1.trans e3, g3⟩, m', l, G3, ds3, pl3, kvs3, F3, h3, e1.trans e3, g3⟩⟩
end
end PD

/-! PD110: the promise of a def that reads the way back out of a dict of places -/
namespace PD
open PySem PySem.Spec PyProof.Rows L2 Evl
inductive Bk (G : Hp) (kvs : List (List Key × V)) : List Int → List Int → Prop where
  | nil {ks : List Int} {x : V} (h : valV kvs (pkN ks) = some x) (r : R G x .none) : Bk G kvs ks []
  | cons {ks ks' : List Int} {m : Int} {ms : List Int} {x : V} (h : valV kvs (pkN ks) = some x) (r : R G x (.tuple [.tuple (ks'.map PyData.int), .int m])) (t : Bk G kvs ks' ms) : Bk G kvs ks (m :: ms)
theorem Bk.up {G G' : Hp} {kvs : List (List Key × V)} {ks ms : List Int} (h : Bk G kvs ks ms) (e : Ex G G') : Bk G' kvs ks ms := by
  induction h with
  | nil h r => exact .nil h (r.up e)
  | cons h r _ ih => exact .cons h (r.up e) ih
theorem Bk.put {G : Hp} {kvs : List (List Key × V)} {ks ms kn : List Int} {y : V} (h : Bk G kvs ks ms) (new : valV kvs (pkN kn) = none) : Bk G (putK kvs (pkN kn) y) ks ms := by
  have ne : ∀ {k : List Int} {x : V}, valV kvs (pkN k) = some x → valV (putK kvs (pkN kn) y) (pkN k) = some x := fun {k x} q => by
    rw [valV_put, if_neg fun z => by rw [z, new] at q; cases q]
    exact q
  induction h with
  | nil h r => exact .nil (ne h) r
  | cons h r _ ih => exact .cons (ne h) r ih
def spBack : Sp := fun vs H Q _ => ∃ (G : Hp) (p : Addr) (kvs : List (List Key × V)) (ks ms : List Int) (vp : V), vs = [.ref p, vp] ∧ Ex G H ∧ G p = none ∧ H p = some (.dT kvs) ∧ R G vp (.tuple (ks.map PyData.int)) ∧ Bk G kvs ks ms ∧ ms.length ≤ 400000 ∧
  ∀ v G' H', Ex H H' → Ex G' H' → Ex G G' → (∀ a o, H a = some o → G a = none → G' a = none) → R G' v (.list (ms.reverse.map PyData.int)) → Q v H'
section
variable {P : Program} {w : World} {K : PySem.W.Frag} {mg : Str → Option Value} {base : Heap} {k : Nat} {f : Addr} {fd : FuncData} {ps : List Str}
theorem hs_pin {G H : Hp} {σ : L2.St} {c : Cn} {ds : DS} {pl : List D} {p : Addr} {o : HO} (h : HS c G σ H ds pl) (hc : c.pool = none) (gp : G p = none) (hp : H p = some o) (no : Nod ds) : HS (c.pinP (one p o)) G σ H ds pl := by
  refine ⟨h.sub, h.gh, h.gq, fun a u q => ?_, h.keep, fun q z => absurd (hc.symm.trans z) (fun y => by cases y), fun a u q => ?_, h.hid, h.len, fun i w q => ?_, h.own⟩
  · rcases pinP_or q with z | z
    · rw [(one_some z).1]; exact gp
    · exact h.gn _ _ z.2
  · rcases pinP_or q with z | z
    · obtain ⟨e1, e2⟩ := one_some z
      rw [e1, e2]; exact hp
    · exact h.pin _ _ z.2
  · obtain ⟨v, e1, e2⟩ := h.slots i w q
    refine ⟨v, e1, ?_⟩
    match w, q, e2 with
    | .d x, q, e2 => exact e2
    | .v x, q, e2 => exact e2
    | .o xs, q, e2 => exact absurd q (no i xs)
theorem fgBack {x qual : Str} {st : Stmt} {N : List Str} (Fn : Fun K x qual st f fd) (S : FnScope N ps (defScope st)) (len : ps.length = 2)
    (go : ∀ (cdv : Value) (B : Around) (fr : List Env) (s : Shared) (H : Hp) (E : XK), B.guards = some [] → Room k (B.deeper (envOfC qual (defScope st) s.heap.objs.size f cdv)) → ∃ t, PSs (cxOf CX0 P w K mg base N qual (defScope st) f cdv B fr s H E).nox (defBody st) t ∧
      ∀ (c : Cn) (p : Addr) (kvs : List (List Key × V)) (ks ms : List Int) (G0 : Hp) (D' : Ends), c.pool = none → Bk G0 kvs ks ms → ms.length ≤ 400000 → Fits (c.pinP (one p (.dT kvs))) G0 D' ⟨fun _ _ => False, rtD fun d => d = .list (ms.reverse.map PyData.int), fun _ _ => False, fun _ _ => False⟩ →
        WSK (c.pinP (one p (.dT kvs))) t ([W.v (.ref p), W.d (.tuple (ks.map PyData.int))].map some ++ List.replicate (N.length - 2) none) [] D' G0) : FG P w K mg base (k + 1) f fd ps spBack := by
  refine fg_of Fn S (fun vs H Q E h => ?_) fun cdv B fr s H vs Q E hg hr h => ?_
  · obtain ⟨G, p, kvs, ks, ms, vp, rfl, _⟩ := h
    rw [len]
    rfl
  · obtain ⟨t, der, body⟩ := go cdv B fr s H E hg hr
    refine ⟨t, der, ?_⟩
    obtain ⟨G, p, kvs, ks, ms, vp, rfl, s0, gp, hp, rp, bk, lm, h⟩ := h
    have st0 := hs_startW (N := N) (vs := [.ref p, vp]) (ws := [W.v (.ref p), W.d (.tuple (ks.map PyData.int))]) s0 rfl (fun j w q => by
      match j, q with
      | 0, q => cases q; exact ⟨_, rfl, .inr rfl⟩
      | 1, q => cases q; exact ⟨_, rfl, .inl ⟨_, rfl, rp⟩⟩
      | j + 2, q => simp at q)
    have no : Nod ([W.v (.ref p), W.d (.tuple (ks.map PyData.int))].map some ++ List.replicate (N.length - 2) none) := fun i xs q => by
      match i, q with
      | 0, q => cases q
      | 1, q => cases q
      | j + 2, q =>
        have q : (List.replicate (N.length - 2) (none : Option W))[j]? = some (some (.o xs)) := q
        rw [List.getElem?_replicate] at q
        split at q <;> cases q
    have st1 := hs_pin st0 rfl gp hp no
    refine body ⟨H, fun a => G a = none ∧ ∃ o, H a = some o, none, fun _ => none⟩ p kvs ks ms G _ rfl bk lm ⟨?_, ?_, ?_, ?_⟩ G _ H st1 (Ex.refl _)
    · exact fun G' σ' H' ds' pl' h' e q => q.elim
    · intro v G' σ' H' ds' w' pl' h' e q g
      match w', q, g with
      | .d y, q, g =>
        have g' : y = .list (ms.reverse.map PyData.int) := g
        subst g'
        exact h v G' H' (fun a o z => h'.keep a o (fun y => by cases y) z) h'.sub e (fun a o z1 z2 => h'.gh a ⟨z2, o, z1⟩) q
    · exact fun G' σ' H' ds' pl' h' e q => q.elim
    · exact fun G' σ' H' ds' pl' h' e q => q.elim
end
end PD

/-! PD111: while, its invariant sees what is there; the way back, step by step -/
namespace PD
open PySem PySem.Spec PyProof.Rows L2 Evl
theorem Bk.get {G : Hp} {kvs : List (List Key × V)} {ks ms : List Int} (h : Bk G kvs ks ms) : ∃ x d, valV kvs (pkN ks) = some x ∧ R G x d ∧ ((ms = [] ∧ d = .none) ∨ ∃ m ks' ms', ms = m :: ms' ∧ d = .tuple [.tuple (List.map PyData.int ks'), .int m] ∧ Bk G kvs ks' ms') := by
  cases h with
  | nil h r => exact ⟨_, _, h, r, .inl ⟨rfl, rfl⟩⟩
  | cons h r t => exact ⟨_, _, h, r, .inr ⟨_, _, _, rfl, rfl, t⟩⟩
section
variable {c : Cn} {ds : DS} {pl : List D} {t u body : TS} {D' : Ends} {G0 : Hp}
theorem wsk_whileG {tt : TT} (I : Hp → Nat → DS → List D → Prop) (m0 : Nat) (h0 : ∀ G, Ex G0 G → I G m0 ds pl)
    (step : ∀ G1 m ds' pl', Ex G0 G1 → I G1 m ds' pl' → WT c tt ds' pl' fun b p1 =>
      (b = false → WSK c u ds' p1 D' G1) ∧
      (b = true → ∀ D2 : Ends, D2.rt = D'.rt → (∀ G3 σ3 H3 ds3 pl3 m', m' < m → HS c G3 σ3 H3 ds3 pl3 → Ex G1 G3 → I G3 m' ds3 pl3 → D2.nx σ3 H3 ∧ D2.ct σ3 H3) → WSK c body ds' p1 D2 G1)) :
    WSK c (tSeq (tWhile tt body) u) ds pl D' G0 := fun G σ H hs e0 =>
  ⟨fun m σ' H' => ∃ G' ds' pl', HS c G' σ' H' ds' pl' ∧ Ex G0 G' ∧ I G' m ds' pl', ⟨m0, G, ds, pl, hs, e0, h0 G e0⟩, by
    rintro m σ' H' ⟨G', ds', pl', h1, e1, g1⟩
    refine step G' m ds' pl' e1 g1 G' σ' H' h1 _ fun b G2 H2 p1 h2 e2 q => ?_
    cases b with
    | false => exact q.1 rfl G2 σ' H2 h2 e2
    | true =>
      refine ⟨fun σ3 H3 => ∃ m', m' < m ∧ ∃ G' ds' pl', HS c G' σ3 H3 ds' pl' ∧ Ex G0 G' ∧ I G' m' ds' pl', fun σ3 H3 ⟨m', l, q⟩ => ⟨m', l, q⟩, ?_⟩
      refine q.2 rfl { nx := fun σ3 H3 => ∃ m', m' < m ∧ ∃ G' ds' pl', HS c G' σ3 H3 ds' pl' ∧ Ex G0 G' ∧ I G' m' ds' pl', rt := D'.rt, bk := u D', ct := fun σ3 H3 => ∃ m', m' < m ∧ ∃ G' ds' pl', HS c G' σ3 H3 ds' pl' ∧ Ex G0 G' ∧ I G' m' ds' pl' } rfl ?_ G2 σ' H2 h2 e2
      exact fun G3 σ3 H3 ds3 pl3 m' l h3 e3 g3 => ⟨⟨m', l, G3, ds3, pl3, h3, e1.trans e3, g3⟩, m', l, G3, ds3, pl3, h3, e1.trans e3, g3⟩⟩
theorem wsk_nx {P : Prop} (h : ∀ G σ H, HS c G σ H ds pl → Ex G0 G → D'.nx σ H) : WSK c tNext ds pl D' G0 := fun G σ H hs e => h G σ H hs e
end
end PD

/-! PD112: xs[::-1] of an owned list -/
namespace PD
open PySem PySem.Spec PyProof.Rows L2 Evl
theorem we_revO {c : Cn} {K : PySem.W.Frag} {ds : DS} {pl : List D} {Φ : W → List D → Prop} {i : Nat} {xs : List D} (hi : ds[i]? = some (some (.o xs))) (h : Φ (.d (.list xs.reverse)) pl) : WE c (tRevL K (tVar i)) ds pl Φ := fun G σ H hs Q q => by
  obtain ⟨v, e1, p, vs, rfl, a1, b, _⟩ := hs.slots i _ hi
  refine ⟨_, e1, _, _, rfl, SqL.of a1, fun l hl => ?_⟩
  have n := hs.none_of hl
  exact q _ _ _ (.d _) pl (hs.newD hl) (Ex.new n.1) (R.lst upd_same (b.rev.up (Ex.new n.1))) h
end PD

/-! PD113: the last statement of a body, as one ahead of nothing -/
namespace PD
open PySem PySem.Spec PyProof.Rows L2 Evl
theorem wsk_tail {c : Cn} {ds : DS} {pl : List D} {t : TS} {D' : Ends} {G0 : Hp} (h : WSK c (tSeq t fun D => D.nx) ds pl D' G0) : WSK c t ds pl D' G0 := h
end PD

/-! PD114: what the way back hands back -/
namespace PD
open PySem PySem.Spec PyProof.Rows L2 Evl
section
variable {c : Cn} {ds : DS} {pl : List D} {D' : Ends} {G0 : Hp} {E : EE} {Ek : XK}
theorem wsk_retBack {id ip : Nat} {p : Addr} {kvs : List (List Key × V)} {ks ms : List Int} (h1 : ds[id]? = some (some (.v (.ref p)))) (h2 : ds[ip]? = some (some (.d (.tuple (ks.map PyData.int))))) (bk : Bk G0 kvs ks ms) (lm : ms.length ≤ 400000)
    (f : Fits (c.pinP (one p (.dT kvs))) G0 D' E) (hr : E.rt (.d (.list (ms.reverse.map PyData.int))) pl) : WSK (c.pinP (one p (.dT kvs))) (tRet (tCall spBack [] Ek (tCons (tVar id) (tCons (tVar ip) tNil)))) ds pl D' G0 := fun G σ H hs e0 => by
  obtain ⟨z1, z2⟩ := dict_at hs h1 one_at
  obtain ⟨v, y1, y2⟩ := hs.slots ip _ h2
  refine ⟨_, z1, v, y1, ?_⟩
  refine ⟨G, p, kvs, ks, ms, v, rfl, hs.sub, hs.gn p _ (pinP_at one_at), z2, y2, bk.up e0, lm, fun v' G' H' a1 a2 a3 a4 a5 => ?_⟩
  exact f.rt v' G' σ H' ds (.d _) pl (hs.ext a1 a2 a3 a4) (e0.trans a3) a5 hr
theorem wsk_dnew1 {u : TS} {i j : Nat} {ks : List Int} (hj : ds[j]? = some (some (.d (.tuple (ks.map PyData.int))))) (h : ∀ p, Fresh c (one p (.dT [(pkN ks, .non)])) → WSK (c.pinP (one p (.dT [(pkN ks, .non)]))) u (ds.set i (some (.v (.ref p)))) pl D' G0) :
    WSK c (tSeq (tAsg (tDisp1T (tVar j) (tC .non)) (gName i)) u) ds pl D' G0 := fun G σ H hs e => fun p hp => by
  obtain ⟨kq, y1, y2⟩ := keyN_at hs hj
  have ne : kq ≠ p := fun z => by rw [z, hp] at y2; cases y2
  refine ⟨_, y1, ?_⟩
  refine ⟨upd_same, kq, pkN ks, .non, rfl, by rw [upd_ne ne]; exact y2, ?_⟩
  have uu : upd (upd H p (.dT [])) p (.dT [(pkN ks, .non)]) = upd H p (.dT [(pkN ks, .non)]) := by
    funext b
    unfold upd
    split <;> rfl
  rw [uu]
  have n := hs.none_of hp
  have F : Fresh c (one p (.dT [(pkN ks, .non)])) := fun a o q => by
    obtain ⟨rfl, rfl⟩ := one_some q
    exact ⟨n.2.2.2.2, n.2.2.1, n.2.1, n.2.2.2.1⟩
  refine h p F G _ _ ((hs.pinNew (Ex.new hp) fun a o q => ?_).setV i (.ref p)) e
  obtain ⟨rfl, rfl⟩ := one_some q
  exact ⟨upd_same, hp⟩
end
end PD

/-! PD115: for over a list of data beside a dict of places, the invariant sees what is there -/
namespace PD
open PySem PySem.Spec PyProof.Rows L2 Evl
section
variable {c : Cn} {K : PySem.W.Frag} {ds : DS} {pl : List D} {t u : TS} {D' : Ends} {G0 : Hp}
theorem wsk_for_dG {j l : Nat} {p : Addr} {kvs0 : List (List Key × V)} {xs : List D} (I : Hp → Nat → List (List Key × V) → DS → List D → Prop) (hl : ds[l]? = some (some (.d (.list xs)))) (F : Fresh c (one p (.dT kvs0))) (h0 : ∀ G, Ex G0 G → I G 0 kvs0 ds pl)
    (hs : ∀ G1 i x kvs ds' pl', xs[i]? = some x → Ex G0 G1 → Fresh c (one p (.dT kvs)) → I G1 i kvs ds' pl' → ∀ D2 : Ends, D2.rt = D'.rt → (∀ G3 σ3 H3 ds3 pl3 kvs3, Fresh c (one p (.dT kvs3)) → HS (c.pinP (one p (.dT kvs3))) G3 σ3 H3 ds3 pl3 → Ex G1 G3 → I G3 (i + 1) kvs3 ds3 pl3 → D2.nx σ3 H3 ∧ D2.ct σ3 H3) →
      WSK (c.pinP (one p (.dT kvs))) t (ds'.set j (some (.d x))) pl' D2 G1)
    (hd : ∀ G1 kvs ds' pl', Ex G0 G1 → Fresh c (one p (.dT kvs)) → I G1 xs.length kvs ds' pl' → WSK (c.pinP (one p (.dT kvs))) u ds' pl' D' G1) :
    WSK (c.pinP (one p (.dT kvs0))) (tSeq (tFor (iList K (tVar l)) (gName j) t) u) ds pl D' G0 := fun G σ H h e0 => by
  obtain ⟨v, e1, e2⟩ := h.slots l _ hl
  have e2' : R G v (.list xs) := e2
  cases e2' with
  | @lst a vs _ a1 b1 =>
    refine ⟨_, e1, a, rfl, ⟨vs, SqL.of (h.sub _ _ a1)⟩, for_list (K := K) (a := a) (xs := vs) (D := { D' with nx := u D' }) (fun i σ' H' => ∃ G' kvs ds' pl', Fresh c (one p (.dT kvs)) ∧ HS (c.pinP (one p (.dT kvs))) G' σ' H' ds' pl' ∧ Ex G G' ∧ I G' i kvs ds' pl') ⟨G, kvs0, ds, pl, F, h, Ex.refl _, h0 G e0⟩ ?_ ?_ ?_⟩
    · rintro i σ' H' _ ⟨G', kvs, ds', pl', F', h2, e2, _⟩
      exact SqL.of (h2.sub _ _ (e2 _ _ a1))
    · rintro i x σ' H' hx ⟨G', kvs, ds', pl', F', h2, e2, g2⟩
      obtain ⟨d, hd1, hd2⟩ := b1.get' hx
      refine hs G' i d kvs ds' pl' hd1 (e0.trans e2) F' g2 { nx := fun σ' H' => ∃ G' kvs ds' pl', Fresh c (one p (.dT kvs)) ∧ HS (c.pinP (one p (.dT kvs))) G' σ' H' ds' pl' ∧ Ex G G' ∧ I G' (i + 1) kvs ds' pl', ct := fun σ' H' => ∃ G' kvs ds' pl', Fresh c (one p (.dT kvs)) ∧ HS (c.pinP (one p (.dT kvs))) G' σ' H' ds' pl' ∧ Ex G G' ∧ I G' (i + 1) kvs ds' pl', bk := u D', rt := D'.rt } rfl ?_ G' _ H' (h2.set (w := .d d) (R.up hd2 e2) fun xs z => by cases z) (Ex.refl _)
      exact fun G3 σ3 H3 ds3 pl3 kvs3 F3 h3 e3 g3 => ⟨⟨G3, kvs3, ds3, pl3, F3, h3, e2.trans e3, g3⟩, G3, kvs3, ds3, pl3, F3, h3, e2.trans e3, g3⟩
    · rintro σ' H' ⟨G', kvs, ds', pl', F', h2, e2, g2⟩
      rw [b1.len] at g2
      exact hd G' kvs ds' pl' (e0.trans e2) F' g2 G' σ' H' h2 (Ex.refl _)
end
end PD

/-! PD116: an owned list that is changed no more: from now on data -/
namespace PD
open PySem PySem.Spec PyProof.Rows L2 Evl
section
variable {c : Cn} {ds : DS} {pl : List D} {t u : TS} {D' : Ends} {G0 : Hp} {E : EE}
theorem HS.freeze {G H : Hp} {σ : L2.St} (h : HS c G σ H ds pl) {i : Nat} {xs : List D} (hi : ds[i]? = some (some (.o xs))) : ∃ G', Ex G G' ∧ HS c G' σ H (ds.set i (some (.d (.list xs)))) pl := by
  obtain ⟨v, e1, p, vs, rfl, a1, b, n1, n2, n3, n4, n5⟩ := h.slots i _ hi
  have eG : Ex G (upd G p (.lst vs)) := Ex.new n1
  refine ⟨upd G p (.lst vs), eG, fun a o q => ?_, fun a q => ?_, fun a q => ?_, fun a o q => ?_, h.keep, fun q z => ?_, h.pin, h.hid, by rw [List.length_set, h.len], fun j w q => ?_, fun j k p' xs' ys' q1 q2 q3 q4 => ?_⟩
  · by_cases z : a = p
    · subst z; rw [upd_same] at q; cases q; exact a1
    · rw [upd_ne z] at q; exact h.sub _ _ q
  · rw [upd_ne fun z : a = p => n5 (by rw [← z]; exact q)]; exact h.gh a q
  · rw [upd_ne fun z : a = p => n4 (by rw [← z]; exact q)]; exact h.gq a q
  · rw [upd_ne fun z : a = p => by rw [z, n3] at q; cases q]; exact h.gn a o q
  · obtain ⟨b1, b2, us, b3, b4⟩ := h.pl q z
    exact ⟨b1, b2, us, b3, b4.up eG⟩
  · by_cases e : i = j
    · subst e
      have hlt : i < ds.length := (List.getElem?_eq_some_iff.mp hi).1
      rw [List.getElem?_set_self hlt] at q
      cases q
      exact ⟨_, e1, show R _ (.ref p) (.list xs) from .lst upd_same (b.up eG)⟩
    · rw [List.getElem?_set_ne e] at q
      obtain ⟨v', f1, f2⟩ := h.slots j w q
      refine ⟨v', f1, ?_⟩
      match w, q, f2 with
      | .d x, q, f2 => exact R.up f2 eG
      | .v x, q, f2 => exact f2
      | .o ys, q, ⟨p', us, ev, c1, c2, c3, c4⟩ =>
        rw [ev] at f1
        have np : p' ≠ p := fun z => e (h.own i j p xs ys hi q e1 (z ▸ f1))
        exact ⟨p', us, ev, c1, c2.up eG, by rw [upd_ne np]; exact c3, c4⟩
  · by_cases e : i = j
    · subst e
      rw [List.getElem?_set_self (List.getElem?_eq_some_iff.mp hi).1] at q1
      cases q1
    · by_cases e' : i = k
      · subst e'
        rw [List.getElem?_set_self (List.getElem?_eq_some_iff.mp hi).1] at q2
        cases q2
      · rw [List.getElem?_set_ne e] at q1
        rw [List.getElem?_set_ne e'] at q2
        exact h.own j k p' xs' ys' q1 q2 q3 q4
theorem wsk_freeze {i : Nat} {xs : List D} (hi : ds[i]? = some (some (.o xs))) (h : WSK c t (ds.set i (some (.d (.list xs)))) pl D' G0) : WSK c t ds pl D' G0 := fun G σ H hs e0 => by
  obtain ⟨G', e, hs'⟩ := hs.freeze hi
  exact h G' σ H hs' (e0.trans e)
end
end PD

/-! PD117: places of the search are few -/
namespace PD
open PySem PySem.Spec PyProof.Rows L2 Evl
section
variable {v : Dv}
theorem gapM_nonneg (ok : v.Ok) {s : Sv} {g : Int} (hg : 0 ≤ g) (ms : List Int) : 0 ≤ gapM v s g ms := by
  have m := mvs_mono ok ms (s := s) (t := (s.1 + g, s.2)) (by show s.1 ≤ s.1 + g; omega) rfl
  unfold gapM
  omega
def Rng (v : Dv) (P : (Int × Int) × Int) : Prop := 0 ≤ P.1.1 ∧ P.1.1 < 24 ∧ 0 ≤ P.1.2 ∧ P.1.2 < 24 ∧ 0 ≤ P.2 ∧ P.2 < lcmV v
theorem Lev.rng (ok : v.Ok) {A B : Nat} {s : Sv} {g : Int} (hg : 0 ≤ g) {n : Nat} {P : (Int × Int) × Int} (h : Lev v A B s g n P) : Rng v P := by
  have l := h.lt
  obtain ⟨ms, _, _, e3, _⟩ := h.ex
  subst e3
  have p1 := ok.1.p1
  have p24 := ok.1.p24
  have q1 := ok.2.p1
  have q24 := ok.2.p24
  have a1 := Int.emod_nonneg (mvs v s ms).1 (show v.1.p ≠ 0 by omega)
  have a2 := Int.emod_lt_of_pos (mvs v s ms).1 (show 0 < v.1.p by omega)
  have a3 := Int.emod_nonneg (lf (mvs v s ms)) (show v.2.p ≠ 0 by omega)
  have a4 := Int.emod_lt_of_pos (lf (mvs v s ms)) (show 0 < v.2.p by omega)
  exact ⟨a1, by show (mvs v s ms).1 % v.1.p < 24; omega, a3, by show lf (mvs v s ms) % v.2.p < 24; omega, gapM_nonneg ok hg ms, l⟩
theorem places_few (ok : v.Ok) {L : List ((Int × Int) × Int)} (nd : L.Nodup) (hb : ∀ P ∈ L, Rng v P) : L.length ≤ 400000 := by
  obtain ⟨cm, _⟩ := com_lcmV ok
  have L5 := cm.le
  have nd2 : (L.map fun P => (P.2 * 24 + P.1.1) * 24 + P.1.2).Nodup := by
    rw [List.nodup_iff_pairwise_ne, List.pairwise_map]
    refine List.Pairwise.imp_of_mem ?_ (List.nodup_iff_pairwise_ne.mp nd)
    intro P Q hP hQ ne e
    obtain ⟨a1, a2, a3, a4, a5, a6⟩ := hb P hP
    obtain ⟨b1, b2, b3, b4, b5, b6⟩ := hb Q hQ
    have z : P.2 = Q.2 ∧ P.1.1 = Q.1.1 ∧ P.1.2 = Q.1.2 := by omega
    exact ne (Prod.ext (Prod.ext z.2.1 z.2.2) z.1)
  have sub := len_of_sub (T := (List.range 400000).map fun (k : Nat) => (k : Int)) nd2 fun x hx => by
    obtain ⟨P, hP, rfl⟩ := List.mem_map.mp hx
    obtain ⟨a1, a2, a3, a4, a5, a6⟩ := hb P hP
    exact List.mem_map.mpr ⟨((P.2 * 24 + P.1.1) * 24 + P.1.2).toNat, List.mem_range.mpr (by omega), by omega⟩
  rw [List.length_map, List.length_map, List.length_range] at sub
  exact sub
end
end PD

/-! PD118: the state of the search; a place in a dict, as a test -/
namespace PD
open PySem PySem.Spec PyProof.Rows L2 Evl
section
variable {v : Dv}
def kn (P : (Int × Int) × Int) : List Int := [P.1.1, P.1.2, P.2]
def pD (P : (Int × Int) × Int) : D := .tuple ((kn P).map PyData.int)
theorem kn_inj {P Q : (Int × Int) × Int} (h : pkN (kn P) = pkN (kn Q)) : P = Q := by
  have h' : kn P = kn Q := List.map_inj_right (fun a b z => Sum.inl.inj z) |>.mp h
  unfold kn at h'
  have h1 := (List.cons.inj h').1
  have h2 := (List.cons.inj (List.cons.inj h').2).1
  have h3 := (List.cons.inj (List.cons.inj (List.cons.inj h').2).2).1
  exact Prod.ext (Prod.ext h1 h2) h3
def stp (v : Dv) (P : (Int × Int) × Int) (m : Int) : (Int × Int) × Int := pOf v (P.1.1, P.1.1 - P.1.2) P.2 [m]
theorem stp_of (ok : v.Ok) (s : Sv) (g : Int) (xs : List Int) (m : Int) : stp v (pOf v s g xs) m = pOf v s g (xs ++ [m]) := by
  have own := plc_own v (mvs v s xs)
  have h1 := plc_same ok own [m]
  have h2 := gap_same ok own (gapM v s g xs) [m]
  show (plc v (mvs v ((plc v (mvs v s xs)).1, (plc v (mvs v s xs)).1 - (plc v (mvs v s xs)).2) [m]), gapM v ((plc v (mvs v s xs)).1, (plc v (mvs v s xs)).1 - (plc v (mvs v s xs)).2) (gapM v s g xs) [m]) = (plc v (mvs v s (xs ++ [m])), gapM v s g (xs ++ [m]))
  rw [h1, h2, mvs_app, gapM_app]
theorem pl3_of (v : Dv) (s : Sv) (g : Int) (xs : List Int) : pl3 v (mvs v s xs) (gapM v s g xs) = pD (pOf v s g xs) := rfl
structure Sr (v : Dv) (A B : Nat) (s : Sv) (g : Int) (n : Nat) (G : Hp) (kvs : List (List Key × V)) (L Lt : List ((Int × Int) × Int)) : Prop where
  nd : L.Nodup
  len : kvs.length = L.length
  keys : ∀ P, P ∈ L ↔ (valV kvs (pkN (kn P))).isSome = true
  ways : ∀ P, P ∈ L → ∃ ms : List Int, ms.length ≤ n + 1 ∧ (∀ m ∈ ms, Single A B m) ∧ pOf v s g ms.reverse = P ∧ Lev v A B s g ms.length P ∧ Bk G kvs (kn P) ms
  all : ∀ k P, k ≤ n → Lev v A B s g k P → P ∈ L
  lat : ∀ P, P ∈ Lt ↔ P ∈ L ∧ Lev v A B s g (n + 1) P
theorem Sr.up {A B : Nat} {s : Sv} {g : Int} {n : Nat} {G G' : Hp} {kvs : List (List Key × V)} {L Lt : List ((Int × Int) × Int)} (h : Sr v A B s g n G kvs L Lt) (e : Ex G G') : Sr v A B s g n G' kvs L Lt :=
  ⟨h.nd, h.len, h.keys, fun P hP => by
    obtain ⟨ms, a, b, c, d, bk⟩ := h.ways P hP
    exact ⟨ms, a, b, c, d, bk.up e⟩, h.all, h.lat⟩
theorem Sr.few (ok : v.Ok) {A B : Nat} {s : Sv} {g : Int} (hg : 0 ≤ g) {n : Nat} {G : Hp} {kvs : List (List Key × V)} {L Lt : List ((Int × Int) × Int)} (h : Sr v A B s g n G kvs L Lt) : L.length ≤ 400000 :=
  places_few ok h.nd fun P hP => by
    obtain ⟨ms, a, b, c, d, bk⟩ := h.ways P hP
    exact d.rng ok hg
theorem Sr.back {A B : Nat} {s : Sv} {g : Int} {n : Nat} {G : Hp} {kvs : List (List Key × V)} {L Lt : List ((Int × Int) × Int)} (h : Sr v A B s g n G kvs L Lt) {P : (Int × Int) × Int} (hP : Lev v A B s g n P) :
    ∃ ms : List Int, ms.length = n ∧ (∀ m ∈ ms, Single A B m) ∧ pOf v s g ms.reverse = P ∧ Bk G kvs (kn P) ms := by
  obtain ⟨ms, a, b, c, d, bk⟩ := h.ways P (h.all n P (Nat.le_refl _) hP)
  exact ⟨ms, d.uniq hP, b, c, bk⟩
theorem Sr.start {A B : Nat} {s : Sv} {g : Int} (hg : g < lcmV v) {G : Hp} : Sr v A B s g 0 G [(pkN (kn (pOf v s g [])), .non)] [pOf v s g []] [] := by
  have l0 : ∀ P, Lev v A B s g 0 P ↔ P = pOf v s g [] := fun P => lev_zero hg
  have vv : ∀ P, valV [(pkN (kn (pOf v s g [])), V.non)] (pkN (kn P)) = if pkN (kn P) = pkN (kn (pOf v s g [])) then some .non else none := fun P => by
    have := valV_put ([] : List (List Key × V)) (pkN (kn (pOf v s g []))) (pkN (kn P)) V.non
    exact this
  refine ⟨List.pairwise_singleton _ _, rfl, fun P => ?_, fun P hP => ?_, fun k P hk hP => ?_, fun P => ?_⟩
  · rw [vv P, List.mem_singleton]
    constructor
    · rintro rfl
      rw [if_pos rfl]
      rfl
    · intro z
      by_cases e : pkN (kn P) = pkN (kn (pOf v s g []))
      · exact kn_inj e
      · rw [if_neg e] at z; cases z
  · have e := List.mem_singleton.mp hP
    refine ⟨[], Nat.zero_le _, (fun _ z => nomatch z), e.symm, (l0 P).mpr e, .nil (x := .non) ?_ .non⟩
    rw [vv P, if_pos (by rw [e])]
  · obtain rfl : k = 0 := by omega
    exact List.mem_singleton.mpr ((l0 P).mp hP)
  · constructor
    · intro z
      cases z
    · rintro ⟨z1, z2⟩
      have := ((l0 P).mpr (List.mem_singleton.mp z1)).uniq z2
      cases this
theorem Sr.put (ok : v.Ok) {A B : Nat} {s : Sv} {g : Int} {n : Nat} {G : Hp} {kvs : List (List Key × V)} {L Lt : List ((Int × Int) × Int)} (h : Sr v A B s g n G kvs L Lt) {P : (Int × Int) × Int} {m : Int} {x : V} (hP : Lev v A B s g n P) (sm : Single A B m)
    (lt : (stp v P m).2 < lcmV v) (new : valV kvs (pkN (kn (stp v P m))) = none) (hx : R G x (.tuple [pD P, .int m])) : Sr v A B s g n G (putK kvs (pkN (kn (stp v P m))) x) (L ++ [stp v P m]) (Lt ++ [stp v P m]) := by
  obtain ⟨ms, ml, sms, pms, bk⟩ := h.back hP
  have notin : stp v P m ∉ L := fun z => by
    have := (h.keys _).mp z
    rw [new] at this
    cases this
  have eq : pOf v s g (ms.reverse ++ [m]) = stp v P m := by rw [← stp_of ok, pms]
  have lev : Lev v A B s g (n + 1) (stp v P m) := by
    have := Lev.succ (v := v) (A := A) (B := B) (s := s) (g := g) (n := n) (xs := ms.reverse) (m := m) ok (by rw [List.length_reverse]; exact ml) (fun x z => sms x (List.mem_reverse.mp z)) sm (by rw [eq]; exact lt) (fun k hk z => notin (by rw [eq] at z; exact h.all k _ hk z))
    rw [eq] at this
    exact this
  refine ⟨?_, ?_, fun Q => ?_, fun Q hQ => ?_, fun k Q hk hQ => List.mem_append_left _ (h.all k Q hk hQ), fun Q => ?_⟩
  · rw [List.nodup_append]
    refine ⟨h.nd, List.pairwise_singleton _ _, fun a ha b hb e => notin ?_⟩
    rw [← List.mem_singleton.mp hb, ← e]
    exact ha
  · rw [putK_len' _ _ _ new, h.len, List.length_append]
    rfl
  · rw [valV_put, List.mem_append, List.mem_singleton]
    by_cases e : pkN (kn Q) = pkN (kn (stp v P m))
    · rw [if_pos e]
      exact ⟨fun _ => rfl, fun _ => .inr (kn_inj e)⟩
    · rw [if_neg e, ← h.keys Q]
      exact ⟨fun z => z.resolve_right fun q => e (by rw [q]), .inl⟩
  · rcases List.mem_append.mp hQ with z | z
    · obtain ⟨ns, a, b, c, d, bq⟩ := h.ways Q z
      exact ⟨ns, a, b, c, d, bq.put new⟩
    · have z := List.mem_singleton.mp z
      subst z
      refine ⟨m :: ms, by rw [List.length_cons, ml]; exact Nat.le_refl _, fun y hy => ?_, by rw [List.reverse_cons]; exact eq, by rw [List.length_cons, ml]; exact lev, ?_⟩
      · rcases List.mem_cons.mp hy with rfl | hy
        · exact sm
        · exact sms y hy
      · refine .cons (x := x) (ks' := kn P) ?_ hx (bk.put new)
        rw [valV_put, if_pos rfl]
  · rw [List.mem_append, List.mem_append, List.mem_singleton, h.lat Q]
    constructor
    · rintro (⟨z1, z2⟩ | rfl)
      · exact ⟨.inl z1, z2⟩
      · exact ⟨.inr rfl, lev⟩
    · rintro ⟨z1 | z1, z2⟩
      · exact .inl ⟨z1, z2⟩
      · exact .inr z1
theorem Sr.next (ok : v.Ok) {A B : Nat} {s : Sv} {g : Int} {n : Nat} {G : Hp} {kvs : List (List Key × V)} {L Lt : List ((Int × Int) × Int)} (h : Sr v A B s g n G kvs L Lt)
    (cl : ∀ P, Lev v A B s g n P → ∀ m, Single A B m → (stp v P m).2 < lcmV v → stp v P m ∈ L) : Sr v A B s g (n + 1) G kvs L [] ∧ ∀ P, P ∈ Lt ↔ Lev v A B s g (n + 1) P := by
  have nx : ∀ P, Lev v A B s g (n + 1) P → P ∈ L := fun P hP => by
    obtain ⟨xs, m, _, _, sm, l, e⟩ := hP.pred ok
    rw [← e, ← stp_of ok]
    refine cl _ l m sm ?_
    rw [stp_of ok, e]
    exact hP.lt
  refine ⟨⟨h.nd, h.len, h.keys, fun P hP => ?_, fun k P hk hP => ?_, fun P => ?_⟩, fun P => ?_⟩
  · obtain ⟨ms, a, b, c, d, bk⟩ := h.ways P hP
    exact ⟨ms, by omega, b, c, d, bk⟩
  · rcases Nat.lt_or_ge n k with z | z
    · obtain rfl : k = n + 1 := by omega
      exact nx P hP
    · exact h.all k P z hP
  · constructor
    · intro z
      cases z
    · rintro ⟨z1, z2⟩
      obtain ⟨ms, a, b, c, d, bk⟩ := h.ways P z1
      have := d.uniq z2
      omega
  · rw [h.lat P]
    exact ⟨fun z => z.2, fun z => ⟨nx P z, z⟩⟩
end
section
variable {c : Cn} {ds : DS} {pl : List D}
theorem wt_dnotin {id ip : Nat} {p : Addr} {kvs : List (List Key × V)} {ks : List Int} {Ψ : Bool → List D → Prop} (h1 : ds[id]? = some (some (.v (.ref p)))) (h2 : ds[ip]? = some (some (.d (.tuple (ks.map PyData.int))))) (h : Ψ (!(valV kvs (pkN ks)).isSome) pl) :
    WT (c.pinP (one p (.dT kvs))) (tB (tDNotIn (tVar ip) (tVar id))) ds pl Ψ := fun G σ H hs Q q => by
  obtain ⟨z1, z2⟩ := dict_at hs h1 one_at
  obtain ⟨kq, y1, y2⟩ := keyN_at hs h2
  exact ⟨_, y1, _, z1, p, valV kvs (pkN ks), rfl, DGet.t z2 y2, _, rfl, q _ G H pl hs (Ex.refl _) h⟩
end
end PD

/-! PD119: ranges with ends of any size -/
namespace PD
open PySem PySem.Spec PyProof.Rows L2 Evl
def FarIt (it : Addr) (lo : Int) (n : Nat) (i : Nat) (h : Heap) : Prop := IsLongIter h it (lo + (i : Nat) * 1) ((n : Int) - (i : Nat)) 1
def iRngF (ta : TA) : TI := fun σ H R => ta σ H fun vs H1 => ∃ i j : Int, vs = [.int i, .int j] ∧ R (Itr i (j - i).toNat) H1
section
variable {c : Cn} {K : PySem.W.Frag} {ds : DS} {pl : List D} {Φ : W → List D → Prop} {te : TE} {tr : TA} {tt : TT} {E : EE} {t : TS}
end
end PD

/-! PD120: four names at once (a list, None, a list that is owned, a number); a gap of either sign -/
namespace PD
open PySem PySem.Spec PyProof.Rows L2 Evl
section
variable {v : Dv} {ms : List Int}
end
end PD

/-! PD121: rounds that join, told twice -/
namespace PD
open PySem PySem.Spec PyProof.Rows L2 Evl
section
variable {v : Dv} {ms : List Int}
end
end PD

/-! PD122: the narrow device of the joining laws -/
namespace PD
open PySem PySem.Spec PyProof.Rows L2 Evl
def narV : Dv := (⟨3, [0]⟩, ⟨5, [0]⟩)
end PD

/-! PD123: joined within a bound, by a table of all places -/
namespace PD
open PySem PySem.Spec PyProof.Rows L2 Evl
noncomputable def allB (f : Nat → Bool) (n : Nat) : Bool := Nat.rec true (fun k ih => and (f k) ih) n
def tS (T x : Nat) : Nat := Nat.mod (Nat.shiftRight T (Nat.mul 4 x)) 16
structure Tb where
  p : Nat
  q : Nat
  L : Nat
  T1 : Nat
  T2 : Nat
  e : Nat
def Tb.en (b : Tb) (h l g : Nat) : Nat := Nat.mod (Nat.shiftRight b.e (Nat.mul 10 (Nat.add (Nat.mul (Nat.add (Nat.mul g b.p) h) b.q) l))) 1024
def Tb.rk (b : Tb) (h l g : Nat) : Nat := Nat.div (b.en h l g) 32
def Tb.up (b : Tb) (h l g m : Nat) (k : Nat → Nat → Nat → Bool) : Bool :=
  k (Nat.mod (Nat.add h (Nat.sub m (tS b.T2 l))) b.p) (Nat.mod (Nat.sub (Nat.add l b.q) (Nat.sub m (Nat.sub m (tS b.T2 l)))) b.q) (Nat.sub (Nat.add g (Nat.sub m (tS b.T2 (Nat.mod (Nat.add l g) b.q)))) (Nat.sub m (tS b.T2 l)))
def Tb.dn (b : Tb) (h l g n : Nat) (k : Nat → Nat → Nat → Bool) : Bool :=
  k (Nat.mod (Nat.sub (Nat.add h b.p) (Nat.sub n (Nat.sub n (tS b.T1 h)))) b.p) (Nat.mod (Nat.add l (Nat.sub n (tS b.T1 h))) b.q) (Nat.sub (Nat.add g (Nat.sub n (Nat.sub n (tS b.T1 h)))) (Nat.sub n (Nat.sub n (tS b.T1 (Nat.mod (Nat.add h g) b.p)))))
def Tb.nev (b : Tb) (h l g : Nat) : Bool := or (Nat.ble b.L g) (and (Nat.ble 1 g) (Nat.beq (b.rk h l g) 31))
def Tb.les (b : Tb) (r h l g : Nat) : Bool := or (Nat.beq g 0) (and (Nat.ble (Nat.add g 1) b.L) (Nat.ble (Nat.add (b.rk h l g) 1) r))
def Tb.hd (b : Tb) (h l : Nat) : Bool := or (Nat.beq (tS b.T1 h) 0) (Nat.beq (tS b.T2 l) 0)
noncomputable def Tb.ok1 (b : Tb) (h l g : Nat) : Bool :=
  cond (Nat.beq (b.rk h l g) 31) (allB (fun m => or (Nat.beq m 0) (and (b.up h l g m b.nev) (b.dn h l g m b.nev))) (Nat.add b.p b.q))
    (cond (Nat.ble (Nat.mod (b.en h l g) 32) 15) (and (Nat.ble 1 (Nat.mod (b.en h l g) 32)) (b.up h l g (Nat.mod (b.en h l g) 32) (b.les (b.rk h l g))))
      (and (Nat.ble 17 (Nat.mod (b.en h l g) 32)) (b.dn h l g (Nat.sub (Nat.mod (b.en h l g) 32) 16) (b.les (b.rk h l g)))))
noncomputable def Tb.chk (b : Tb) : Bool :=
  allB (fun h => allB (fun l => cond (b.hd h l) (allB (fun g => or (Nat.beq g 0) (cond (b.hd (Nat.mod (Nat.add h g) b.p) (Nat.mod (Nat.add l g) b.q)) (b.ok1 h l g) true)) b.L) true) b.q) b.p
structure Rp (b : Tb) (v : Dv) (a c : Int) : Prop where
  ok : v.Ok
  p : v.1.p = b.p
  q : v.2.p = b.q
  f : ∀ x, slk v.1 x = (tS b.T1 ((x + a) % b.p).toNat : Nat)
  g : ∀ x, slk v.2 x = (tS b.T2 ((x + c) % b.q).toNat : Nat)
  L : lcmV v = b.L
structure Ab (b : Tb) (a c : Int) (s : Sv) (g : Int) (h l k : Nat) : Prop where
  h : (s.1 + a) % (b.p : Int) = h
  l : (lf s + c) % (b.q : Int) = l
  k : g = k
section
variable {b : Tb} {v : Dv} {a c : Int} {s : Sv} {g : Int} {h l k : Nat}
end
end PD

/-! PD124: two bars, whichever is lower; rounds as moves; moves that join, one by one -/
namespace PD
open PySem PySem.Spec PyProof.Rows L2 Evl
section
variable {v : Dv}
end
end PD

/-! PD125: two bars, upside down -/
namespace PD
open PySem PySem.Spec PyProof.Rows L2 Evl
def btwL (v : Dv) (a low high : Int) : List Int := ((List.range (high - low).toNat).map fun (k : Nat) => low + 1 + (k : Int)).filter fun h => held v (h, a)
def lstU (u : Dv) (e : Int) (ms : List Int) (h : Int) : Int := 0 - (mvs u (0 - h, 0 - e) ms.reverse).1
def ledL (u : Dv) (e : Int) (ms : List Int) (x y : Int) (hs : List Int) : List Int := hs.filter fun h => decide (x < lstU u e ms h) && decide (lstU u e ms h ≤ y)
section
variable {v u : Dv} (o : Ovr 0 v u) (ok : v.Ok) (ok' : u.Ok)
include o ok ok'
end
section
variable {v u : Dv} (o : Ovr 0 v u) (ok : v.Ok) (ok' : u.Ok) (e1 : u.1.p = v.1.p) (e2 : u.2.p = v.2.p) {ms : List Int} (s0 : ms.sum = 0)
include o ok ok' e1 e2 s0
end
end PD

/-! PD126: combs of one tooth: distances fall to multiples -/
namespace PD
open PySem PySem.Spec PyProof.Rows L2 Evl
def kF : Nat → Nat → Nat → Nat → Option Nat
  | 0, _, _, _ => none
  | n + 1, f, s, g => if g = 0 then some 0 else (kF n s f (g / f * f)).map (· + 1)
def kOk (p q g : Nat) : Bool := g % p != 0 || decide (Nat.lcm p q ≤ g) || (match kF 41 q p g with | some c => decide (c ≤ 40) | none => false)
section
variable {v : Dv} (ok : v.Ok) {t1 t2 : Int} (h1 : v.1.ts = [t1]) (h2 : v.2.ts = [t2])
include ok h1 h2
end
end PD

/-! PD127: list(range(a, b)), states compared -/
namespace PD
open PySem PySem.Spec PyProof.Rows L2 Evl
section
variable {c : Cn} {ds : DS} {pl : List D} {Φ : W → List D → Prop} {ta tb : TE}
def rgI (a b : Int) : List Int := (List.range (b - a).toNat).map fun (i : Nat) => a + (i : Int)
end
end PD

/-! PD128: devices of one tooth at 0 -/
namespace PD
open PySem PySem.Spec PyProof.Rows L2 Evl
def zeroV (p q : Nat) : Dv := (⟨p, [0]⟩, ⟨q, [0]⟩)
end PD

/-! PD129: defs that hand back a new list, or None -/
namespace PD
open PySem PySem.Spec PyProof.Rows L2 Evl
def noV (H G' H' : Hp) (v : V) : Option (List D) → Prop
  | none => v = .non
  | some xs => ∃ p us, v = .ref p ∧ H p = none ∧ G' p = none ∧ H' p = some (.lst us) ∧ RA G' us xs
def spNo (F : List D → (Option (List D) → Prop) → Prop) : Sp := fun vs H Q _ => ∃ G ds, Ex G H ∧ RA G vs ds ∧ F ds fun o => ∀ v G' H', Ex H H' → Ex G' H' → Ex G G' → (∀ a o, H a = some o → G a = none → G' a = none) → noV H G' H' v o → Q v H'
def noF {A : Type} (enc : A → List D) (pre : A → Prop) (post : A → Option (List D) → Prop) : List D → (Option (List D) → Prop) → Prop := fun ds k => ∃ a, ds = enc a ∧ pre a ∧ ∀ o, post a o → k o
def noW : Option (List D) → W
  | none => .d .none
  | some xs => .o xs
def noD : Option (List D) → D
  | none => .none
  | some xs => .list xs
abbrev rtNo (k : Option (List D) → Prop) : W → List D → Prop := fun w _ => match w with
  | .d .none => k none
  | .o xs => k (some xs)
  | _ => False
section
variable {c : Cn} {K : PySem.W.Frag} {ds : DS} {pl : List D} {tr : TA} {Φ : W → List D → Prop} {Ek : XK} {A : Type} {enc : A → List D} {pre : A → Prop} {post : A → Option (List D) → Prop}
end
section
variable {P : Program} {w : World} {K : PySem.W.Frag} {mg : Str → Option Value} {base : Heap} {k : Nat} {f : Addr} {fd : FuncData} {ps : List Str}
def spBackN : Sp := fun vs H Q _ => ∃ (G : Hp) (p : Addr) (kvs : List (List Key × V)) (ks ms : List Int) (vp : V), vs = [.ref p, vp] ∧ Ex G H ∧ G p = none ∧ H p = some (.dT kvs) ∧ R G vp (.tuple (ks.map PyData.int)) ∧ Bk G kvs ks ms ∧ ms.length ≤ 400000 ∧
  ∀ v G' H', Ex H H' → Ex G' H' → Ex G G' → (∀ a o, H a = some o → G a = none → G' a = none) → noV H G' H' v (some (ms.reverse.map PyData.int)) → Q v H'
end
section
variable {c : Cn} {ds : DS} {pl : List D} {D' : Ends} {G0 : Hp} {E : EE} {Ek : XK}
end
end PD

/-! PD130: rules for a search by layers: for with any target beside a dict, xs, d = e, {}, xs, n = [], n + 1 -/
namespace PD
open PySem PySem.Spec PyProof.Rows L2 Evl
section
variable {c : Cn} {K : PySem.W.Frag} {ds : DS} {pl : List D} {t u : TS} {D' : Ends} {G0 : Hp} {E : EE}
end
end PD

/-! PD131: a search by layers of heights: all places that so many single moves lead to -/
namespace PD
open PySem PySem.Spec PyProof.Rows L2 Evl
section
variable {v : Dv} {M : Nat} {palm x y : Int}
def kq (v : Dv) (q : Int × Int × Int) : (Int × Int) × Int := ((q.1 % v.1.p, (q.1 - q.2.2) % v.2.p), q.2.1 - q.1)
def triM (v : Dv) (palm x y : Int) (ns : List Int) : Int × Int × Int := ((mvs v (x, palm) ns).1, (mvs v (y, palm) ns).1, palm + ns.sum)
def Sgl (M : Nat) (ns : List Int) : Prop := ∀ m ∈ ns, Single M M m
def RN (v : Dv) (M : Nat) (palm x y : Int) (k : Nat) (P : (Int × Int) × Int) : Prop := ∃ ns : List Int, ns.length ≤ k ∧ Sgl M ns ∧ pOf v (x, palm) (y - x) ns = P
structure Bf (v : Dv) (M : Nat) (palm x y : Int) (n : Nat) (kvs : List (List Key × V)) (L : List ((Int × Int) × Int)) (qs : List (Int × Int × Int)) : Prop where
  nd : L.Nodup
  len : kvs.length = L.length
  keys : ∀ P, P ∈ L ↔ (valV kvs (pkN (kn P))).isSome = true
  got : ∀ P, P ∈ L → P.2 ≠ 0 ∧ RN v M palm x y n P
  all : ∀ P, RN v M palm x y n P → P ∈ L ∨ P = pOf v (x, palm) (y - x) []
  rep : ∀ q, q ∈ qs → ∃ ns : List Int, ns.length = n ∧ Sgl M ns ∧ q = triM v palm x y ns
  frn : ∀ P, RN v M palm x y n P → (∃ ns : List Int, ns.length < n ∧ Sgl M ns ∧ pOf v (x, palm) (y - x) ns = P) ∨ ∃ q, q ∈ qs ∧ kq v q = P
structure Bg (v : Dv) (M : Nat) (palm x y : Int) (n : Nat) (L : List ((Int × Int) × Int)) (kvs : List (List Key × V)) (L2 : List ((Int × Int) × Int)) (Lt : List (Int × Int × Int)) : Prop where
  nd : L2.Nodup
  len : kvs.length = L2.length
  keys : ∀ P, P ∈ L2 ↔ (valV kvs (pkN (kn P))).isSome = true
  sub : ∀ P, P ∈ L → P ∈ L2
  got : ∀ P, P ∈ L2 → P.2 ≠ 0 ∧ RN v M palm x y (n + 1) P
  new : ∀ P, P ∈ L2 → P ∈ L ∨ ∃ q, q ∈ Lt ∧ kq v q = P
  rep : ∀ q, q ∈ Lt → ∃ ns : List Int, ns.length = n + 1 ∧ Sgl M ns ∧ q = triM v palm x y ns
  cnt : L.length + Lt.length ≤ L2.length
end
end PD

/-! PD132: as few moves as join are no more than there are places -/
namespace PD
open PySem PySem.Spec PyProof.Rows L2 Evl
end PD

/-! PD133: for with any target over a tuple; a copy of an owned list -/
namespace PD
open PySem PySem.Spec PyProof.Rows L2 Evl
section
variable {c : Cn} {K : PySem.W.Frag} {ds : DS} {pl : List D} {t : TS} {E : EE}
end
end PD

/-! PD134: the search by layers as a function of its start: the same moves each time -/
namespace PD
open PySem PySem.Spec PyProof.Rows L2 Evl
abbrev Pp := ((Int × Int) × Int) × List Int
def stM (v : Dv) (q : Pp) (st : List Pp × List Pp) (m : Int) : List Pp × List Pp :=
  if (stp v q.1 m).2 < lcmV v ∧ stp v q.1 m ∉ st.1.map Prod.fst then (st.1 ++ [(stp v q.1 m, m :: q.2)], st.2 ++ [(stp v q.1 m, m :: q.2)]) else st
def stP (v : Dv) (SG : List Int) (st : List Pp × List Pp) (q : Pp) : List Pp × List Pp := SG.foldl (stM v q) st
def layS (v : Dv) (SG : List Int) (st : List Pp × List Pp) : List Pp × List Pp := st.2.foldl (stP v SG) (st.1, [])
def stN (v : Dv) (SG : List Int) (s : Sv) (g : Int) : Nat → List Pp × List Pp
  | 0 => ([(pOf v s g [], [])], [(pOf v s g [], [])])
  | n + 1 => layS v SG (stN v SG s g n)
def Jt (v : Dv) (SG : List Int) (s : Sv) (g : Int) : Option (List Int) → Prop
  | some ms => ∃ (n i : Nat) (q : Pp), (stN v SG s g n).2[i]? = some q ∧ q.1.2 = 0 ∧ (∀ (j : Nat) q', (stN v SG s g n).2[j]? = some q' → j < i → q'.1.2 ≠ 0) ∧ (∀ k, k < n → ∀ q', q' ∈ (stN v SG s g k).2 → q'.1.2 ≠ 0) ∧ ms = q.2.reverse
  | none => ∃ n : Nat, (stN v SG s g n).2 = [] ∧ ∀ k, k < n → ∀ q', q' ∈ (stN v SG s g k).2 → q'.1.2 ≠ 0
def SGl (A B : Nat) : List Int := (List.range A).map (fun (k : Nat) => 1 + (k : Int)) ++ (List.range B).map fun (k : Nat) => -(1 + (k : Int))
structure Szs (v : Dv) (A B : Nat) : Prop where
  a : ∀ n, slk v.2 n + v.1.p ≤ (A : Int)
  b : ∀ n, slk v.1 n + v.2.p ≤ (B : Int)
  a1 : ∃ n, slk v.2 n + v.1.p = (A : Int)
  b1 : ∃ n, slk v.1 n + v.2.p = (B : Int)
def JtS (v : Dv) (s : Sv) (g : Int) (o : Option (List Int)) : Prop := ∃ A B, Szs v A B ∧ Jt v (SGl A B) s g o
def Pt (v : Dv) (A B : Nat) (s : Sv) (g : Int) (G : Hp) (kvs : List (List Key × V)) (L : List Pp) : Prop := ∀ q ∈ L, Bk G kvs (kn q.1) q.2 ∧ pOf v s g q.2.reverse = q.1 ∧ ∀ m ∈ q.2, Single A B m
end PD

/-! PD135: the search goes as its function says -/
namespace PD
open PySem PySem.Spec PyProof.Rows L2 Evl
section
variable {v : Dv} {A B : Nat} {s : Sv} {g : Int} {SG : List Int}
def X1 (v : Dv) (A B : Nat) (s : Sv) (g : Int) (SG : List Int) (n : Nat) (G : Hp) (kvs : List (List Key × V)) (L Wt : List ((Int × Int) × Int)) : Prop :=
  ∃ L' Wt' : List Pp, stN v SG s g n = (L', Wt') ∧ L = L'.map Prod.fst ∧ Wt = Wt'.map Prod.fst ∧ Pt v A B s g G kvs L' ∧ (∀ q ∈ Wt', q ∈ L' ∧ q.2.length = n) ∧ ∀ k, k < n → ∀ q', q' ∈ (stN v SG s g k).2 → q'.1.2 ≠ 0
def X2 (v : Dv) (A B : Nat) (s : Sv) (g : Int) (SG : List Int) (n i : Nat) (G : Hp) (kvs : List (List Key × V)) (L Lt Wt : List ((Int × Int) × Int)) : Prop :=
  ∃ L0 Wt' L' Lt' : List Pp, stN v SG s g n = (L0, Wt') ∧ Wt = Wt'.map Prod.fst ∧ (Wt'.take i).foldl (stP v SG) (L0, []) = (L', Lt') ∧ L = L'.map Prod.fst ∧ Lt = Lt'.map Prod.fst ∧ Pt v A B s g G kvs L' ∧ (∀ q ∈ Wt', q ∈ L' ∧ q.2.length = n) ∧ (∀ q ∈ Lt', q ∈ L' ∧ q.2.length = n + 1) ∧
    ∀ k, k < n → ∀ q', q' ∈ (stN v SG s g k).2 → q'.1.2 ≠ 0
def X3 (v : Dv) (A B : Nat) (s : Sv) (g : Int) (SG : List Int) (n i j : Nat) (P : (Int × Int) × Int) (G : Hp) (kvs : List (List Key × V)) (L Lt Wt : List ((Int × Int) × Int)) : Prop :=
  ∃ (L0 Wt' L2 Lt2 L' Lt' : List Pp) (q : Pp), stN v SG s g n = (L0, Wt') ∧ Wt = Wt'.map Prod.fst ∧ Wt'[i]? = some q ∧ q.1 = P ∧ (Wt'.take i).foldl (stP v SG) (L0, []) = (L2, Lt2) ∧ (SG.take j).foldl (stM v q) (L2, Lt2) = (L', Lt') ∧ L = L'.map Prod.fst ∧ Lt = Lt'.map Prod.fst ∧ Pt v A B s g G kvs L' ∧
    (∀ q ∈ Wt', q ∈ L' ∧ q.2.length = n) ∧ (∀ q ∈ Lt', q ∈ L' ∧ q.2.length = n + 1) ∧ ∀ k, k < n → ∀ q', q' ∈ (stN v SG s g k).2 → q'.1.2 ≠ 0
variable {n i j : Nat} {P : (Int × Int) × Int} {G G' : Hp} {kvs : List (List Key × V)} {L Lt Wt : List ((Int × Int) × Int)}
theorem X1.go (h : X1 v A B s g SG n G kvs L Wt) : X2 v A B s g SG n 0 G kvs L [] Wt := by
  obtain ⟨L', Wt', a, b, c, d, f, z⟩ := h
  exact ⟨L', Wt', L', [], a, c, rfl, b, rfl, d, f, (fun q hq => nomatch hq), z⟩
theorem X2.go (h : X2 v A B s g SG n i G kvs L Lt Wt) (hP : Wt[i]? = some P) : X3 v A B s g SG n i 0 P G kvs L Lt Wt := by
  obtain ⟨L0, Wt', L', Lt', a, b, c, d, f, p, r⟩ := h
  have hP' := hP
  rw [b, List.getElem?_map] at hP'
  obtain ⟨q, hq, eq⟩ := Option.map_eq_some_iff.mp hP'
  exact ⟨L0, Wt', L', Lt', L', Lt', q, a, b, hq, eq, c, rfl, d, f, p, r⟩
end
end PD

/-! PD136: a pool made of a list written down -/
namespace PD
open PySem PySem.Spec PyProof.Rows L2 Evl
section
variable {c : Cn} {K : PySem.W.Frag} {ds : DS} {Φ : W → List D → Prop} {tr : TA}
end
/-! ### the narrow device of k24's law -/
def twoV : Dv := (⟨7, [0, 2]⟩, ⟨8, [0]⟩)
end PD

/-! PD137: comprehensions of pairs over a tuple -/
namespace PD
open PySem PySem.Spec PyProof.Rows L2 Evl
section
variable {c : Cn} {K : PySem.W.Frag} {ds : DS} {pl : List D} {Φ : W → List D → Prop} {te tl : TE} {tr : TA} {tt : TT} {σ : L2.St} {E : EE} {t : TS}
end
end PD

/-! PD138: set(a list of numbers) -/
namespace PD
open PySem PySem.Spec PyProof.Rows L2 Evl
abbrev bareSet (w : World) : Obj := { cls := .type "set", dict := none, data := .set #[] 0 (.fresh 0 0 (!w.params.followText "set-order")) }
section
variable {P : Program} {w : World} {A : Around} {E : Value → Shared → Prop} {s : Shared}
end
section
variable {X : Cx}
def rSetI (K : PySem.W.Frag) (w : World) : List V → Hp → VK → Prop := fun vs H Q => ∃ (l : Addr) (ns : List Int), vs = [V.ref l] ∧ SqL K H l (ns.map V.int) ∧ ns.length ≤ 1000 ∧
  ∀ (p : Addr) (n : Nat), H p = none → n ≤ ns.length → Q (.ref p) (upd H p (stO w p (fun j => decide (j ∈ ns), n)))
end
section
variable {c : Cn} {K : PySem.W.Frag} {ds : DS} {pl : List D} {Φ : W → List D → Prop} {te : TE} {w : World}
end
end PD

/-! PD139: catches by their numbers -/
namespace PD
open PySem PySem.Spec PyProof.Rows L2 Evl
def nthC (c : Comb) (i : Int) : Int := i / (c.ts.length : Int) * c.p + c.ts.getD (i % (c.ts.length : Int)).toNat 0
section
variable {c : Comb}
end
end PD

/-! PD140: catches in a row -/
namespace PD
open PySem PySem.Spec PyProof.Rows L2 Evl
def spots (c : Comb) (N : Nat) : List Int := ((List.range N).filter fun (j : Nat) => caught c (j : Int)).map fun (j : Nat) => (j : Int)
section
variable {c : Comb}
end
end PD

/-! PD141: a new comb that is kept and changed; plain combs -/
namespace PD
open PySem PySem.Spec PyProof.Rows L2 Evl
section
variable {c : Cn} {K : PySem.W.Frag} {ds : DS} {pl : List D} {t u : TS} {D' : Ends} {G0 : Hp} {E : EE} {Φ : W → List D → Prop} {tt : TT} {te : TE}
end
theorem PlC.plain {c b : Comb} (h : PlC c b) : Plain b := by
  obtain ⟨o, same, le, dv, least⟩ := h
  refine ⟨o, fun q q1 q2 qd pr => least q q1 q2 ?_ fun n => by rw [← same, ← same]; exact pr n⟩
  obtain ⟨k, hk⟩ := Int.dvd_of_emod_eq_zero qd
  obtain ⟨m, hm⟩ := Int.dvd_of_emod_eq_zero dv
  rw [hm, hk, Int.mul_assoc, Int.mul_emod_right]
theorem PlC.same {c b e : Comb} (h : PlC c b) (g : PlC c e) : e = b := g.plain.uniq h.plain fun n => by rw [g.2.1, h.2.1]
def plainB (b : Comb) : Bool := (List.range b.p.toNat).all fun q => decide (q = 0) || decide (b.p % (q : Int) ≠ 0) || (List.range b.p.toNat).any fun r => caught b ((r : Int) + q) != caught b (r : Int)
def sameB (b c : Comb) : Bool := decide (c.p % b.p = 0) && (List.range c.p.toNat).all fun r => caught b (r : Int) == caught c (r : Int)
end PD

/-! PD142: k02's written combs -/
namespace PD
open PySem PySem.Spec PyProof.Rows L2 Evl
def dbl (c : Comb) : Comb := ⟨2 * c.p, c.ts ++ c.ts.map (c.p + ·)⟩
def wc (p : Int) (ts : List Int) : Comb := ⟨p, ts⟩
end PD

/-! PD143: how many different numbers a list has: len(set(xs)) -/
namespace PD
open PySem PySem.Spec PyProof.Rows L2 Evl
def Diff (ns : List Int) (n : Nat) : Prop := ∃ ks : List Int, ks.Nodup ∧ (∀ k, k ∈ ks ↔ k ∈ ns) ∧ ks.length = n
section
variable {X : Cx}
def rSetC (K : PySem.W.Frag) (w : World) : List V → Hp → VK → Prop := fun vs H Q => ∃ (l : Addr) (ns : List Int), vs = [V.ref l] ∧ SqL K H l (ns.map V.int) ∧ ns.length ≤ 1000 ∧
  ∀ (p : Addr) (n : Nat), H p = none → Diff ns n → Q (.ref p) (upd H p (stO w p (fun j => decide (j ∈ ns), n)))
def rLenN (w : World) : List V → Hp → VK → Prop := fun vs H Q => ∃ (a : Addr) (t : (Int → Bool) × Nat), vs = [V.ref a] ∧ H a = some (stO w a t) ∧ t.2 ≤ 100000 ∧ Q (.int (t.2 : Nat)) H
end
section
variable {c : Cn} {K : PySem.W.Frag} {ds : DS} {pl : List D} {Φ : W → List D → Prop} {te : TE} {w : World}
end
end PD

/-! PD144: new lists of numbers kept as the rows of a new list, and changed -/
namespace PD
open PySem PySem.Spec PyProof.Rows L2 Evl
section
variable {c : Cn} {K : PySem.W.Frag} {ds : DS} {pl : List D} {t u : TS} {D' : Ends} {G0 : Hp} {E : EE} {Φ : W → List D → Prop} {tt : TT} {te : TE}
def WEW (c : Cn) (te : TE) (ds : DS) (pl : List D) (k : Hp → V → List D → Prop) : Prop := ∀ G σ H, HS c G σ H ds pl → ∀ Q : VK, (∀ P v G' H' pl', HS (c.pinP P) G' σ H' ds pl' → Ex G G' → Fresh c P → k P v pl' → Q v H') → te σ H Q
def WAW (c : Cn) (ta : TA) (ds : DS) (pl : List D) (k : Hp → List V → List D → Prop) : Prop := ∀ G σ H, HS c G σ H ds pl → ∀ Q : List V → Hp → Prop, (∀ P vs G' H' pl', HS (c.pinP P) G' σ H' ds pl' → Ex G G' → Fresh c P → k P vs pl' → Q vs H') → ta σ H Q
def noP : Hp := fun _ => none
end
end PD

/-! PD145: a kept list gets a number; each of its rows gets one more -/
namespace PD
open PySem PySem.Spec PyProof.Rows L2 Evl
section
variable {c : Cn} {K : PySem.W.Frag} {ds : DS} {pl : List D} {u : TS} {D' : Ends} {G0 : Hp}
def rowP (P : Hp) (f : Addr → List V) (x : V) (as : List Addr) : Hp := fun b => if b ∈ as then some (.lst (f b ++ [x])) else P b
end
end PD

/-! PD146: new lists handed on -/
namespace PD
open PySem PySem.Spec PyProof.Rows L2 Evl
section
variable {c : Cn} {K : PySem.W.Frag} {ds : DS} {pl : List D} {Φ : W → List D → Prop} {te : TE} {tt : TT} {tr : TA}
end
end PD

/-! PD147: the keys of a kept dict that pass, as a new list handed back -/
namespace PD
open PySem PySem.Spec PyProof.Rows L2 Evl
section
variable {c : Cn} {K : PySem.W.Frag} {ds : DS} {pl : List D} {D' : Ends} {G0 G H : Hp} {σ : L2.St} {E : EE} {Φ : W → List D → Prop} {te tk tv : TE} {tt : TT} {tr : TA} {j : Nat}
end
end PD

/-! PD148: owned lists: lent to an expression that makes a new list; moved from slot to slot -/
namespace PD
open PySem PySem.Spec PyProof.Rows L2 Evl
section
variable {c : Cn} {K : PySem.W.Frag} {ds : DS} {pl : List D} {t u : TS} {D' : Ends} {G0 : Hp} {E : EE} {Φ : W → List D → Prop} {tt : TT} {te : TE}
end
end PD

/-! PD149: sorted sets as owned lists; a number and a new list handed back together -/
namespace PD
open PySem PySem.Spec PyProof.Rows L2 Evl
section
variable {c : Cn} {K : PySem.W.Frag} {ds : DS} {pl : List D} {Φ : W → List D → Prop} {te tl : TE} {tt : TT} {σ : L2.St} {j : Nat} {w : World}
end
def tupP (k : Int) (ns : List Int) (t p : Addr) : Hp := fun b => if b = t then some (.tup [.int k, .ref p]) else if b = p then some (.lst (ns.map V.int)) else none
section
variable {c : Cn} {K : PySem.W.Frag} {ds : DS} {pl : List D} {u : TS} {D' : Ends} {G0 : Hp} {tr : TA}
end
end PD

/-! PD150: what settled hands back, taken apart -/
namespace PD
open PySem PySem.Spec PyProof.Rows L2 Evl
def settledF : List D → (Hp → V → Prop) → Prop := fun ds k => ∃ a : Dv × Int × List Int, ds = [a.1.d, .int a.2.1, .list (a.2.2.map PyData.int)] ∧ (a.1.Ok ∧ a.2.2.length ≤ 40 ∧ (∀ m ∈ a.2.2, m ≠ 0) ∧ a.2.2 ≠ [] ∧ a.2.2.sum = 0) ∧
  ∀ (n : Nat) t p, t ≠ p → Settle a.1 a.2.2 a.2.1 n → k (tupP (n : Int) (setl a.1 a.2.2 a.2.1 n) t p) (.ref t)
section
variable {c : Cn} {K : PySem.W.Frag} {ds : DS} {pl : List D} {E : EE} {Ek : XK} {tr : TA}
end
end PD

/-! PD151: a new list beside other owned lists -/
namespace PD
open PySem PySem.Spec PyProof.Rows L2 Evl
def WEO (c : Cn) (te : TE) (ds : DS) (pl : List D) (Φ : List D → List D → Prop) : Prop := ∀ G σ H, HS c G σ H ds pl → ∀ Q : VK, (∀ v G' H' xs pl', HS c G' σ H' ds pl' → Ex G G' → VW G' H' c v (.o xs) → (∀ (j : Nat) (ys : List D), ds[j]? = some (some (W.o ys)) → σ[j]? ≠ some (some v)) → Φ xs pl' → Q v H') → te σ H Q
section
variable {c : Cn} {K : PySem.W.Frag} {ds : DS} {pl : List D} {t u : TS} {D' : Ends} {G0 : Hp} {E : EE} {Φ : W → List D → Prop} {tt : TT} {te : TE}
end
end PD

/-! PD152: one number of settling rounds -/
namespace PD
open PySem PySem.Spec PyProof.Rows L2 Evl
end PD

/-! PD153: defs that change their second argument, a list -/
namespace PD
open PySem PySem.Spec PyProof.Rows L2 Evl
def spQ (F : D → List D → List D → (D → List D → Prop) → Prop) : Sp := fun vs H Q _ => ∃ G p v0 vs' us d0 pl ds, vs = v0 :: .ref p :: vs' ∧ Ex G H ∧ G p = none ∧ H p = some (.lst us) ∧ RA G us pl ∧ R G v0 d0 ∧ RA G vs' ds ∧ F d0 pl ds fun d pl' =>
  ∀ v G' H' us', (∀ a o, a ≠ p → H a = some o → H' a = some o) → Ex G' H' → Ex G G' → (∀ a o, H a = some o → G a = none → G' a = none) → H' p = some (.lst us') → RA G' us' pl' → R G' v d → Q v H'
section
variable {c : Cn} {K : PySem.W.Frag} {ds : DS} {pl : List D} {Φ : W → List D → Prop} {ta tb te : TE} {tr : TA} {G H : Hp} {σ : L2.St} {E : EE}
end
section
variable {P : Program} {w : World} {K : PySem.W.Frag} {mg : Str → Option Value} {base : Heap} {k : Nat} {f : Addr} {fd : FuncData} {ps : List Str}
def slotsQ (N : List Str) (d0 : D) (p : Addr) (ds : List D) : DS := some (.d d0) :: some (.v (.ref p)) :: (ds.map (fun x => some (W.d x)) ++ List.replicate (N.length - (ds.length + 2)) none)
end
def markL (bs : List Bool) (n : Nat) : List Int := ((List.range n).filter fun i => bs[i]? == some true).map fun (i : Nat) => (i : Int)
def roundOnF : D → List D → List D → (D → List D → Prop) → Prop := fun d0 pl ds k => ∃ (ls : List Int) (bs : List Bool), d0 = .list (ls.map PyData.int) ∧ pl = bs.map PyData.bool ∧ ds = [.int ((ls.length : Nat) : Int)] ∧ bs.length = ls.length ∧ 0 < ls.length ∧ ls.length ≤ 1000 ∧
  (∀ (i : Nat) (l : Int), ls[i]? = some l → bs[i]? = some true → bs[(l % (ls.length : Int)).toNat]? = some true) ∧ k (.list ((markL bs ls.length).map PyData.int)) pl
end PD

/-! PD154: settling by going round from all held heights -/
namespace PD
open PySem PySem.Spec PyProof.Rows L2 Evl
section
variable {v : Dv} {ms : List Int} {arm : Int}
end
end PD

/-! PD155: new lists kept in a new list: which are others than which; four answers in one list -/
namespace PD
open PySem PySem.Spec PyProof.Rows L2 Evl
section
variable {c : Cn} {K : PySem.W.Frag} {ds : DS} {pl : List D} {u : TS} {D' : Ends} {G0 : Hp}
def two2 (P : Hp) (x : V) (l1 l2 : List Int) : Prop := ∃ q p1 p2, x = .ref q ∧ P q = some (.lst [.ref p1, .ref p2]) ∧ P p1 = some (.lst (l1.map V.int)) ∧ P p2 = some (.lst (l2.map V.int)) ∧ p1 ≠ p2
def three3 (P : Hp) (x : V) (l1 l2 l3 : List Int) : Prop := ∃ q p1 p2 p3, x = .ref q ∧ P q = some (.lst [.ref p1, .ref p2, .ref p3]) ∧ P p1 = some (.lst (l1.map V.int)) ∧ P p2 = some (.lst (l2.map V.int)) ∧ P p3 = some (.lst (l3.map V.int)) ∧ p1 ≠ p2 ∧ p1 ≠ p3 ∧ p2 ≠ p3 ∧ p1 ≠ q ∧ p2 ≠ q ∧ p3 ≠ q
end
end PD

/-! PD156: the narrow device: settled heights -/
namespace PD
open PySem PySem.Spec PyProof.Rows L2 Evl
abbrev narT : List (Int × Nat × List Int) := [(6, 3, [9]), (7, 1, [0, 6, 12]), (10, 2, [0, 9])]
end PD

/-! PD157: defs that may raise; calls of them; try -/
namespace PD
open PySem PySem.Spec PyProof.Rows L2 Evl
structure FX (P : Program) (w : World) (K : PySem.W.Frag) (mg : Str → Option Value) (base : Heap) (k : Nat) (f : Addr) (fd : FuncData) (ps : List Str) (sp : Sp) : Prop where
  many : ∀ vs H Q E, sp vs H Q E → vs.length = ps.length
  goes : ∀ (B : Around) (fr : List Env) (s : Shared) (H : Hp) (ar : Args) (us : List Value) (vs : List V) (Q : VK) (E : XK), B.guards = some [] → Room k B → Env0 P w K mg base B fr s H →
    BindsTo s fd ar (ps.zip us) → Vals vs us → sp vs H Q E → codeAny (model P w) B (.call (.ref f) ar) (CR (L2.CX P w) fr P w H s Q E) s
section
variable {P : Program} {w : World} {K : PySem.W.Frag} {mg : Str → Option Value} {base : Heap} {k : Nat} {f : Addr} {fd : FuncData} {ps : List Str} {sp : Sp}
def DfX (P : Program) (w : World) (K : PySem.W.Frag) (mg : Str → Option Value) (base : Heap) (k : Nat) (name : Str) (ps : List Str) (sp : Sp) : Prop :=
  ∃ f fd, FX P w K mg base k f fd ps sp ∧ mg name = some (.ref f) ∧ PySem.W.keepIn K (.ref f) = true ∧ Binds K fd ps [] ∧ At0 K f fd
end
section
variable {X : Cx} {k : Nat} {f : Addr} {fd : FuncData} {ps : List Str} {sp : Sp} {W : WX} {x : Str} {p pos : Pos} {e : Expr} {es : List Expr} {t : TA}
def tCallX (sp : Sp) (W : WX) (t : TA) : TE := fun σ H Q => t σ H fun vs H1 => sp vs H1 Q (fun cls d H' => W cls d σ H')
end
/-! ### the promise: data, or an exception of one class; nothing that stood is changed -/
def spX (mg : Str → Option Value) (x : Str) (F : List D → (D → Prop) → Prop → Prop) : Sp := fun vs H Q E => ∃ G ds, Ex G H ∧ RA G vs ds ∧ F ds (fun d => ∀ v G' H', Ex H H' → Ex G' H' → Ex G G' → (∀ a o, H a = some o → G a = none → G' a = none) → R G' v d → Q v H')
  (∀ C H', mg x = some (.ref C) → Ex H H' → E (.ref C) none H')
def detX {A : Type} (enc : A → List D) (pre : A → Prop) (val : A → Option D) : List D → (D → Prop) → Prop → Prop := fun ds k e => ∃ a, ds = enc a ∧ pre a ∧ (val a = none → e) ∧ ∀ d, val a = some d → k d
section
variable {c : Cn} {K : PySem.W.Frag} {ds : DS} {pl : List D} {Φ : W → List D → Prop} {ta tb te : TE} {tr : TA} {mg : Str → Option Value} {x : Str} {W1 : WX}
end
section
variable {P : Program} {w : World} {K : PySem.W.Frag} {mg : Str → Option Value} {base : Heap} {k : Nat} {f : Addr} {fd : FuncData} {ps : List Str}
end
structure ExcOk (K : PySem.W.Frag) (mg : Str → Option Value) (x : Str) (C : Addr) : Prop where
  g : mg x = some (.ref C)
  x : PySem.W.excIn K C [.type "ValueError", .type "Exception", .type "BaseException", .type "object"] "ValueError.__new__" = true
  k : PySem.W.keepIn K (.ref C) = true
  b : PySem.W.subIn K (.ref C) (.type "BaseException") = some true
  t : PySem.W.typeIn K (.ref C) = some (.type "type")
  em : PySem.W.exmOne K (.ref C) (.ref C) = some true
end PD

/-! PD158: keyword calls of defs that may raise -/
namespace PD
open PySem PySem.Spec PyProof.Rows L2 Evl
section
variable {X : Cx} {k : Nat} {ps ks : List Str} {sp : Sp} {W : WX} {x : Str} {p pos : Pos} {tk : TA} {kws : List Keyword} {is : List Nat}
end
end PD

/-! PD159: an answer as related to the arguments, or the exception -/
namespace PD
open PySem PySem.Spec PyProof.Rows L2 Evl
def relX {A : Type} (enc : A → List D) (pre bad : A → Prop) (post : A → D → Prop) : List D → (D → Prop) → Prop → Prop := fun ds k e => ∃ a, ds = enc a ∧ pre a ∧ (bad a → e) ∧ (¬ bad a → ∀ d, post a d → k d)
section
variable {c : Cn} {ds : DS} {pl : List D} {Φ : W → List D → Prop} {tr : TA} {mg : Str → Option Value} {x : Str} {W1 : WX} {A : Type} {enc : A → List D} {pre bad : A → Prop} {post : A → D → Prop}
end
end PD

/-! PD160: places gone through from seven rounds further up; the least and the greatest rise -/
namespace PD
open PySem PySem.Spec PyProof.Rows L2 Evl
def placesL (v : Dv) (ns : List (Int × Int)) : List Sv := (startsL v).filterMap fun st => runN v (st.1 + 7 * v.1.p, st.1 + 7 * v.1.p - st.2) ns
end PD

/-! PD161: the narrow device: sure rises and ranges; one item for each item of a tuple -/
namespace PD
open PySem PySem.Spec PyProof.Rows L2 Evl
section
variable {c : Cn} {K : PySem.W.Frag} {ds : DS} {pl : List D} {Φ : W → List D → Prop} {tl te : TE}
end
def oZ : Option Int → D
  | some r => .int r
  | none => .none
instance (l : List Int) : Decidable (AllEq l) := by unfold AllEq; infer_instance
end PD

/-! PD162: try .. except x as e; isinstance of what was caught; the first move that tells -/
namespace PD
open PySem PySem.Spec PyProof.Rows L2 Evl
def onlyC (C : Addr) (ts : Addr → TS) : Addr → Value → Option Addr → TS := fun a cls d D σ H => (cls = .ref C ∧ d = none) ∧ ts a D σ H
section
variable {X : Cx} {x n : Str} {C : Addr} {i : Nat} {body suite : List Stmt} {b₀ : Stmt} {np pos pos' : Pos} {tb : WX → TS} {ts : Addr → TS} {Wout : WX}
end
section
variable {c : Cn} {K : PySem.W.Frag} {ds : DS} {pl : List D} {Φ : W → List D → Prop} {tr : TA} {mg : Str → Option Value} {x : Str} {G H : Hp} {σ : L2.St}
end
structure ExcAs (K : PySem.W.Frag) (mg : Str → Option Value) (x : Str) (C : Addr) : Prop where
  o : ExcOk K mg x C
  c : ExcC K C
  v : PySem.W.kitOne K (.ref C) (.type "ValueError") = some true
def bef (a b : Int) : Prop := a.natAbs < b.natAbs ∨ (a.natAbs = b.natAbs ∧ b < a)
def Tells (R : Int → List Int) (M : Nat) (d : D) : Prop := (d = .none ∧ ∀ m : Int, m ≠ 0 → m.natAbs ≤ M → AllEq (R m)) ∨ ∃ m : Int, d = .int m ∧ m ≠ 0 ∧ m.natAbs ≤ M ∧ ¬ AllEq (R m) ∧ ∀ z : Int, z ≠ 0 → bef z m → AllEq (R z)
end PD

/-! PD163: isinstance(e, ValueError) by the class's bases -/
namespace PD
open PySem PySem.Spec PyProof.Rows L2 Evl
end PD

/-! PD164: the first move that tells is one; devices of the telling law -/
namespace PD
open PySem PySem.Spec PyProof.Rows L2 Evl
def befs (m : Int) : List Int := ((List.range m.natAbs).map fun (k : Nat) => ((k : Int) + 1)) ++ (List.range m.natAbs).map fun (k : Nat) => -((k : Int) + 1)
instance (a b : Int) : Decidable (bef a b) := by unfold bef; infer_instance
def lonV : Dv := (⟨1, [0]⟩, ⟨24, [0]⟩)
def oneV : Dv := (⟨1, [0]⟩, ⟨1, [0]⟩)
abbrev lonT : List (List (Int × Int) × Int) := [([(22, 0), (-22, 0)], 23), ([(22, 0)], 1)]
abbrev narTl : List (List (Int × Int) × Option Int) := [([], some 1), ([(1, 1)], some (-1)), ([(1, 0)], some 1), ([(4, 1)], none), ([(1, 1), (-1, -1)], some (-1))]
end PD

/-! PD165: a device whose teeth are shifted -/
namespace PD
open PySem PySem.Spec PyProof.Rows L2 Evl
structure Shf (v u : Dv) (b m : Int) : Prop where
  p1 : u.1.p = v.1.p
  p2 : u.2.p = v.2.p
  g : ∀ y, caught u.1 (y + b) = caught v.1 y
  h : ∀ y, caught u.2 (y + m) = caught v.2 y
abbrev sh (b m : Int) (s : Sv) : Sv := (s.1 + b, s.2 + b - m)
theorem flo_sh {c d : Comb} (oc : c.Ok) (od : d.Ok) {b : Int} (h : ∀ y, caught d (y + b) = caught c y) (x : Int) : flo d (x + b) = flo c x + b := by
  obtain ⟨a1, a2, a3⟩ := flo_spec oc x
  refine IsBelow.uniq (flo_spec od _) ⟨by omega, by rw [h]; exact a2, fun y y1 y2 => ?_⟩
  have e := h (y - b)
  rw [show y - b + b = y by omega] at e
  rw [e]
  exact a3 _ (by omega) (by omega)
section
variable {v u : Dv} {b m : Int} (o : Shf v u b m)
include o
theorem Shf.symm : Shf u v (-b) (-m) := ⟨o.p1.symm, o.p2.symm, fun y => by rw [← o.g, show y + -b + b = y by omega], fun y => by rw [← o.h, show y + -m + m = y by omega]⟩
theorem Shf.held (s : Sv) : PD.held u (sh b m s) = PD.held v s := by
  unfold PD.held
  show (caught u.1 (s.1 + b) || caught u.2 (s.1 + b - (s.2 + b - m))) = _
  rw [o.g, show s.1 + b - (s.2 + b - m) = s.1 - s.2 + m by omega, o.h]
theorem Shf.mv (ok : v.Ok) (ou : u.Ok) (s : Sv) (k : Int) : PD.mv u (sh b m s) k = sh b m (PD.mv v s k) := by
  have f1 := flo_sh ok.1 ou.1 o.g
  have f2 := flo_sh ok.2 ou.2 o.h
  unfold PD.mv
  by_cases z : k > 0
  · rw [if_pos z, if_pos z]
    show (s.2 + b - m + k + max (s.1 + b - (s.2 + b - m) - k) (flo u.2 (s.1 + b - (s.2 + b - m))), s.2 + b - m + k) = (s.2 + k + max (s.1 - s.2 - k) (flo v.2 (s.1 - s.2)) + b, s.2 + k + b - m)
    rw [show s.1 + b - (s.2 + b - m) = s.1 - s.2 + m by omega, f2]
    ext
    · show _ = s.2 + k + max (s.1 - s.2 - k) (flo v.2 (s.1 - s.2)) + b
      show s.2 + b - m + k + max (s.1 - s.2 + m - k) (flo v.2 (s.1 - s.2) + m) = _
      omega
    · show s.2 + b - m + k = s.2 + k + b - m
      omega
  · rw [if_neg z, if_neg z]
    show (max (s.1 + b + k) (flo u.1 (s.1 + b)), s.2 + b - m + k) = (max (s.1 + k) (flo v.1 s.1) + b, s.2 + k + b - m)
    rw [f1]
    ext
    · show max (s.1 + b + k) (flo v.1 s.1 + b) = max (s.1 + k) (flo v.1 s.1) + b
      omega
    · show s.2 + b - m + k = s.2 + k + b - m
      omega
theorem Shf.mvs (ok : v.Ok) (ou : u.Ok) : ∀ (ms : List Int) (s : Sv), PD.mvs u (sh b m s) ms = sh b m (PD.mvs v s ms)
  | [], s => rfl
  | k :: r, s => by
    show PD.mvs u (PD.mv u (sh b m s) k) r = sh b m (PD.mvs v (PD.mv v s k) r)
    rw [Shf.mv o ok ou]
    exact Shf.mvs ok ou r _
theorem Shf.rp (ok : v.Ok) (ou : u.Ok) (ms : List Int) (s : Sv) : ∀ k : Nat, PD.rp u ms (sh b m s) k = sh b m (PD.rp v ms s k)
  | 0 => rfl
  | k + 1 => by
    show PD.mvs u (PD.rp u ms (sh b m s) k) ms = _
    rw [Shf.rp ok ou ms s k, Shf.mvs o ok ou]
    rfl
theorem Shf.plc (s t : Sv) : PD.plc u (sh b m s) = PD.plc u (sh b m t) ↔ PD.plc v s = PD.plc v t := by
  have key : ∀ (p x y d : Int), (x + d) % p = (y + d) % p ↔ x % p = y % p := fun p x y d => by
    rw [Int.emod_eq_emod_iff_emod_sub_eq_zero, Int.emod_eq_emod_iff_emod_sub_eq_zero, show x + d - (y + d) = x - y by omega]
  unfold PD.plc lf
  rw [Prod.mk.injEq, Prod.mk.injEq, o.p1, o.p2]
  show (s.1 + b) % v.1.p = (t.1 + b) % v.1.p ∧ (s.1 + b - (s.2 + b - m)) % v.2.p = (t.1 + b - (t.2 + b - m)) % v.2.p ↔ _
  rw [show s.1 + b - (s.2 + b - m) = s.1 - s.2 + m by omega, show t.1 + b - (t.2 + b - m) = t.1 - t.2 + m by omega, key, key]
theorem Shf.cyc (ok : v.Ok) (ou : u.Ok) {ms : List Int} {s : Sv} {n j : Nat} : Cyc u ms (sh b m s) n j ↔ Cyc v ms s n j := by
  have e : ∀ i k, PD.plc u (PD.rp u ms (sh b m s) i) = PD.plc u (PD.rp u ms (sh b m s) k) ↔ PD.plc v (PD.rp v ms s i) = PD.plc v (PD.rp v ms s k) := fun i k => by
    rw [Shf.rp o ok ou, Shf.rp o ok ou]
    exact Shf.plc o _ _
  exact ⟨fun c => ⟨c.lt, (e _ _).mp c.eq, fun i k h1 h2 h3 => c.inj i k h1 h2 ((e _ _).mpr h3)⟩, fun c => ⟨c.lt, (e _ _).mpr c.eq, fun i k h1 h2 h3 => c.inj i k h1 h2 ((e _ _).mp h3)⟩⟩
theorem Shf.fst (ok : v.Ok) (ou : u.Ok) {ms : List Int} {s : Sv} {h : Int} {x : Option Nat} : Fst u ms (sh b m s) (h + b) x ↔ Fst v ms s h x := by
  have e : ∀ k, (PD.rp u ms (sh b m s) k).1 = (PD.rp v ms s k).1 + b := fun k => by rw [Shf.rp o ok ou]
  cases x with
  | none => exact ⟨fun q i => by have := q i; rw [e] at this; omega, fun q i => by have := q i; rw [e]; omega⟩
  | some k =>
    constructor
    · rintro ⟨q1, q2⟩
      exact ⟨by rw [e] at q1; omega, fun i hi => by have := q2 i hi; rw [e] at this; omega⟩
    · rintro ⟨q1, q2⟩
      exact ⟨by rw [e]; omega, fun i hi => by have := q2 i hi; rw [e]; omega⟩
theorem Shf.mean (ok : v.Ok) (ou : u.Ok) {ms : List Int} {arm t c : Int} (mn : Mean v ms arm t c) : Mean u ms (arm + b - m) t c := by
  refine ⟨mn.t0, mn.b0, mn.b5, mn.low, fun a n j cy => ?_⟩
  have es : ((a, arm + b - m) : Sv) = sh b m (a - b, arm) := by
    ext
    · show a = a - b + b; omega
    · rfl
  rw [es] at cy ⊢
  have c1 := (Shf.cyc o ok ou).mp cy
  have e := mn.eq (a - b) n j c1
  rw [e, Shf.rp o ok ou, Shf.rp o ok ou]
  congr 1
  show _ = (PD.rp v ms (a - b, arm) n).1 + b - ((PD.rp v ms (a - b, arm) j).1 + b)
  omega
theorem Shf.mOf (ok : v.Ok) (ou : u.Ok) (arm z : Int) : PD.mOf u (arm + b - m) z = PD.mOf v arm z := (mOf_eq ou (Shf.mean o ok ou (mOf_mean ok arm z))).symm
theorem Shf.rows (ok : v.Ok) (ou : u.Ok) (arm : Int) : ∀ n : Nat, rowsF u (arm + b - m) n = rowsF v arm n
  | 0 => rfl
  | n + 1 => by
    have ih := Shf.rows ok ou arm n
    show (if PD.mOf u _ _ = (rowsF u _ n).2 then rowsF u _ n else ((rowsF u _ n).1 ++ [((n : Int) + 1, PD.mOf u _ ((n : Int) + 1))], PD.mOf u _ ((n : Int) + 1))) = _
    rw [ih, Shf.mOf o ok ou]
    rfl
theorem Shf.lcm : lcmV u = lcmV v := by unfold lcmV; rw [o.p1, o.p2]
theorem Shf.spanN : PD.spanN u = PD.spanN v := by unfold PD.spanN; rw [Shf.lcm o, o.p1, o.p2]
theorem Shf.inj (ok : v.Ok) {arm : Int} {S : List Int} (sub : ∀ x ∈ S, x ∈ heldL v arm) (nd : S.Nodup) : (S.map fun x => (x + b) % lcmV u).Nodup := by
  rw [Shf.lcm o, List.nodup_iff_pairwise_ne, List.pairwise_map]
  refine (List.nodup_iff_pairwise_ne.mp nd).imp_of_mem fun {x y} hx hy ne e => ne ?_
  have h1 := heldL_rem ok (sub x hx)
  have h2 := heldL_rem ok (sub y hy)
  have e2 : x % lcmV v = y % lcmV v := by
    rw [Int.emod_eq_emod_iff_emod_sub_eq_zero] at e ⊢
    rw [show x + b - (y + b) = x - y by omega] at e
    exact e
  rw [h1, h2] at e2
  exact e2
theorem Shf.held_len (ok : v.Ok) (ou : u.Ok) (arm : Int) : (heldL v arm).length ≤ (heldL u (arm + b - m)).length := by
  have h := len_of_sub (Shf.inj o ok (fun x hx => hx) (heldN_nd v arm _)) (T := heldL u (arm + b - m)) fun y hy => by
    obtain ⟨x, hx, rfl⟩ := List.mem_map.mp hy
    refine held_rem ou ?_
    rw [← (heldN_mem.mp hx).2.2]
    exact Shf.held o (x, arm)
  rw [List.length_map] at h
  exact h
theorem Shf.stuck_len (ok : v.Ok) (ou : u.Ok) (arm : Int) {ms : List Int} (s0 : ms.sum = 0) : (stuckL v arm ms).length ≤ (stuckL u (arm + b - m) ms).length := by
  have h := len_of_sub (Shf.inj o ok (S := stuckL v arm ms) (fun x hx => (List.mem_filter.mp hx).1) (List.Pairwise.filter _ (heldN_nd v arm _))) (T := stuckL u (arm + b - m) ms) fun y hy => by
    obtain ⟨x, hx, rfl⟩ := List.mem_map.mp hy
    obtain ⟨h1, h2⟩ := List.mem_filter.mp hx
    have h2' : (PD.mvs v (x, arm) ms).1 = x := of_decide_eq_true h2
    have hh : PD.held u (x + b, arm + b - m) = true := by
      rw [← (heldN_mem.mp h1).2.2]
      exact Shf.held o (x, arm)
    refine List.mem_filter.mpr ⟨held_rem ou hh, decide_eq_true ?_⟩
    obtain ⟨cm, _⟩ := com_lcmV ou
    have e1 : PD.mvs u (x + b, arm + b - m) ms = sh b m (PD.mvs v (x, arm) ms) := Shf.mvs o ok ou ms (x, arm)
    have ed := Int.emod_add_mul_ediv (x + b) (lcmV u)
    have pe : PD.plc u (x + b, arm + b - m) = PD.plc u ((x + b) % lcmV u, arm + b - m) := by
      have := cm.plc (x + b) (arm + b - m) (-((x + b) / lcmV u))
      rw [this]
      congr 2
      rw [Int.mul_neg]
      omega
    rw [mvs_shift ou ms pe, e1]
    show (PD.mvs v (x, arm) ms).1 + b + ((x + b) % lcmV u - (x + b)) = (x + b) % lcmV u
    rw [h2']
    omega
  rw [List.length_map] at h
  exact h
theorem Shf.run (ok : v.Ok) (ou : u.Ok) : ∀ (ns : List (Int × Int)) (s : Sv), (runN u (sh b m s) ns).isSome = (runN v s ns).isSome
  | [], s => rfl
  | q :: r, s => by
    have e := Shf.mv o ok ou s q.1
    have u1 : runN v s (q :: r) = if (PD.mv v s q.1).1 - s.1 = q.2 then runN v (PD.mv v s q.1) r else none := rfl
    have u2 : runN u (sh b m s) (q :: r) = if (PD.mv u (sh b m s) q.1).1 - (sh b m s).1 = q.2 then runN u (PD.mv u (sh b m s) q.1) r else none := rfl
    rw [u1, u2, e]
    have e2 : (sh b m (PD.mv v s q.1)).1 - (sh b m s).1 = (PD.mv v s q.1).1 - s.1 := by
      show (PD.mv v s q.1).1 + b - (s.1 + b) = _
      omega
    rw [e2]
    by_cases z : (PD.mv v s q.1).1 - s.1 = q.2
    · rw [if_pos z, if_pos z]
      exact Shf.run ok ou r _
    · rw [if_neg z, if_neg z]
theorem Shf.alk (s : Sv) : AlkS v s u (sh b m s) := by
  refine ⟨fun n => ?_, fun n => ?_⟩
  · rw [← o.g]
    congr 1
    show n + s.1 + b = n + (s.1 + b)
    omega
  · rw [← o.h]
    congr 1
    show n + (s.1 - s.2) + m = n + (s.1 + b - (s.2 + b - m))
    omega
end
end PD

/-! PD166: looks of shifted devices; a device times a number -/
namespace PD
open PySem PySem.Spec PyProof.Rows L2 Evl
theorem fit_nil2 {v : Dv} (ok : v.Ok) (ns : List (Int × Int)) : fitL v ns = [] ↔ ∀ s, held v s = true → (runN v s ns).isSome = false := by
  have e := fit_starts v ns
  constructor
  · intro z s hs
    rw [z] at e
    have e' : (startsL v).filter (fun st => (runN v (st.1, st.1 - st.2) ns).isSome) = [] := e.symm
    have q := List.filter_eq_nil_iff.mp e' _ (start_mem ok hs)
    rw [← runN_plc ok ns (plc_start v s)]
    simpa using q
  · intro z
    have e' : (startsL v).filter (fun st => (runN v (st.1, st.1 - st.2) ns).isSome) = [] := List.filter_eq_nil_iff.mpr fun st hst => by
      rw [z _ (startsL_in ok hst).2.2.2.2]
      simp
    rw [e'] at e
    exact List.map_eq_nil_iff.mp e
theorem Shf.fit {v u : Dv} {b m : Int} (o : Shf v u b m) (ok : v.Ok) (ou : u.Ok) (ns : List (Int × Int)) : fitL u ns = [] ↔ fitL v ns = [] := by
  rw [fit_nil2 ou, fit_nil2 ok]
  constructor
  · intro z s hs
    rw [← Shf.run o ok ou ns s]
    exact z _ (by rw [Shf.held o]; exact hs)
  · intro z s hs
    have es : s = sh b m (s.1 - b, s.2 - b + m) := by
      ext
      · show s.1 = s.1 - b + b; omega
      · show s.2 = s.2 - b + m + b - m; omega
    rw [es] at hs ⊢
    rw [Shf.run o ok ou]
    exact z _ (by rw [← Shf.held o]; exact hs)
structure Tms (v u : Dv) (n : Int) : Prop where
  n0 : 0 < n
  p1 : u.1.p = n * v.1.p
  p2 : u.2.p = n * v.2.p
  g : ∀ y, caught u.1 (n * y) = caught v.1 y
  g' : ∀ y, caught u.1 y = true → y % n = 0
  h : ∀ y, caught u.2 (n * y) = caught v.2 y
  h' : ∀ y, caught u.2 y = true → y % n = 0
abbrev tm (n : Int) (s : Sv) : Sv := (n * s.1, n * s.2)
theorem flo_tm {c d : Comb} (oc : c.Ok) (od : d.Ok) {n : Int} (n0 : 0 < n) (h : ∀ y, caught d (n * y) = caught c y) (h' : ∀ y, caught d y = true → y % n = 0) (x : Int) : flo d (n * x) = n * flo c x := by
  obtain ⟨a1, a2, a3⟩ := flo_spec oc x
  refine IsBelow.uniq (flo_spec od _) ⟨Int.mul_le_mul_of_nonneg_left a1 (by omega), by rw [h]; exact a2, fun y y1 y2 => ?_⟩
  cases e : caught d y with
  | false => rfl
  | true =>
    obtain ⟨z, rfl⟩ := Int.dvd_of_emod_eq_zero (h' y e)
    rw [h] at e
    have l1 : flo c x < z := Int.lt_of_mul_lt_mul_left y1 (by omega)
    have l2 : z ≤ x := Int.le_of_mul_le_mul_left y2 n0
    rw [a3 z l1 l2] at e
    cases e
theorem mul_max' {n a b : Int} (n0 : 0 < n) : n * max a b = max (n * a) (n * b) := by
  by_cases z : a ≤ b
  · have := Int.mul_le_mul_of_nonneg_left z (show 0 ≤ n by omega)
    rw [Int.max_eq_right z, Int.max_eq_right this]
  · have := Int.mul_le_mul_of_nonneg_left (show b ≤ a by omega) (show 0 ≤ n by omega)
    rw [Int.max_eq_left (show b ≤ a by omega), Int.max_eq_left this]
section
variable {v u : Dv} {n : Int} (o : Tms v u n)
include o
theorem Tms.held (s : Sv) : PD.held u (tm n s) = PD.held v s := by
  unfold PD.held
  show (caught u.1 (n * s.1) || caught u.2 (n * s.1 - n * s.2)) = _
  rw [o.g, ← Int.mul_sub, o.h]
theorem Tms.mv (ok : v.Ok) (ou : u.Ok) (s : Sv) (k : Int) : PD.mv u (tm n s) (n * k) = tm n (PD.mv v s k) := by
  have f1 := flo_tm ok.1 ou.1 o.n0 o.g o.g'
  have f2 := flo_tm ok.2 ou.2 o.n0 o.h o.h'
  unfold PD.mv
  by_cases z : k > 0
  · have z' : n * k > 0 := Int.mul_pos o.n0 z
    rw [if_pos z, if_pos z']
    ext
    · show n * s.2 + n * k + max (n * s.1 - n * s.2 - n * k) (flo u.2 (n * s.1 - n * s.2)) = n * (s.2 + k + max (s.1 - s.2 - k) (flo v.2 (s.1 - s.2)))
      rw [← Int.mul_sub, f2, ← Int.mul_sub, ← mul_max' o.n0, Int.mul_add, Int.mul_add]
    · show n * s.2 + n * k = n * (s.2 + k)
      rw [Int.mul_add]
  · have z' : ¬ n * k > 0 := fun q => by
      have q2 := Int.mul_le_mul_of_nonneg_left (show k ≤ 0 by omega) (show 0 ≤ n by have := o.n0; omega)
      rw [Int.mul_zero] at q2
      omega
    rw [if_neg z, if_neg z']
    ext
    · show max (n * s.1 + n * k) (flo u.1 (n * s.1)) = n * max (s.1 + k) (flo v.1 s.1)
      rw [f1, ← Int.mul_add, mul_max' o.n0]
    · show n * s.2 + n * k = n * (s.2 + k)
      rw [Int.mul_add]
theorem Tms.mvs (ok : v.Ok) (ou : u.Ok) : ∀ (ms : List Int) (s : Sv), PD.mvs u (tm n s) (ms.map fun k => n * k) = tm n (PD.mvs v s ms)
  | [], s => rfl
  | k :: r, s => by
    show PD.mvs u (PD.mv u (tm n s) (n * k)) (r.map fun k => n * k) = tm n (PD.mvs v (PD.mv v s k) r)
    rw [Tms.mv o ok ou]
    exact Tms.mvs ok ou r _
theorem Tms.rp (ok : v.Ok) (ou : u.Ok) (ms : List Int) (s : Sv) : ∀ k : Nat, PD.rp u (ms.map fun k => n * k) (tm n s) k = tm n (PD.rp v ms s k)
  | 0 => rfl
  | k + 1 => by
    show PD.mvs u (PD.rp u (ms.map fun k => n * k) (tm n s) k) (ms.map fun k => n * k) = _
    rw [Tms.rp ok ou ms s k, Tms.mvs o ok ou]
    rfl
theorem Tms.plc {s t : Sv} (h : PD.plc v s = PD.plc v t) : PD.plc u (tm n s) = PD.plc u (tm n t) := by
  unfold PD.plc lf at h ⊢
  rw [Prod.mk.injEq] at h ⊢
  rw [o.p1, o.p2]
  show n * s.1 % (n * v.1.p) = n * t.1 % (n * v.1.p) ∧ (n * s.1 - n * s.2) % (n * v.2.p) = (n * t.1 - n * t.2) % (n * v.2.p)
  rw [← Int.mul_sub, ← Int.mul_sub, Int.mul_emod_mul_of_pos _ _ o.n0, Int.mul_emod_mul_of_pos _ _ o.n0, Int.mul_emod_mul_of_pos _ _ o.n0, Int.mul_emod_mul_of_pos _ _ o.n0, h.1, h.2]
  exact ⟨rfl, rfl⟩
theorem Tms.mean (ok : v.Ok) (ou : u.Ok) {ms : List Int} {arm t b t2 b2 : Int} (s0 : ms.sum = 0) (mn : Mean v ms arm t b) (mn2 : Mean u (ms.map fun k => n * k) (n * arm) t2 b2) : t2 * b = n * t * b2 := by
  obtain ⟨j1, j0, cy⟩ := cyc_ex (v := v) (ms := ms) (s := ((0 : Int), arm)) ok
  have lt := cy.lt
  have e0 := cy.eq
  rw [show j1 = j0 + (j1 - j0) by omega, rp_add, hx_eta s0] at e0
  obtain ⟨y, hy⟩ : ∃ y, hx v ms arm 0 j0 = y := ⟨_, rfl⟩
  obtain ⟨k, hk⟩ : ∃ k, j1 - j0 = k := ⟨_, rfl⟩
  rw [hy, hk] at e0
  have a1 := (mn.told ok (show 0 < k by omega) e0).1
  have e1 := Tms.plc o e0
  rw [← Tms.rp o ok ou] at e1
  have a2 := (mn2.told ou (y := n * y) (show 0 < k by omega) e1).1
  have e2 : (PD.rp u (ms.map fun k => n * k) (n * y, n * arm) k).1 = n * (PD.rp v ms (y, arm) k).1 := by
    have := Tms.rp o ok ou ms (y, arm) k
    exact congrArg Prod.fst this
  rw [e2, ← Int.mul_sub] at a2
  have kp : (0 : Int) < (k : Int) := by omega
  generalize (PD.rp v ms (y, arm) k).1 - y = R at a1 a2
  -- R b = t k, n R b2 = t2 k
  have f : (t2 * b) * (k : Int) = (n * t * b2) * (k : Int) := by
    calc (t2 * b) * (k : Int) = (t2 * (k : Int)) * b := by rw [Int.mul_assoc, Int.mul_comm b, ← Int.mul_assoc]
      _ = n * R * b2 * b := by rw [a2]
      _ = n * (R * b) * b2 := by rw [Int.mul_assoc (n * R), Int.mul_comm b2 b, ← Int.mul_assoc, Int.mul_assoc n R b]
      _ = n * (t * (k : Int)) * b2 := by rw [a1]
      _ = (n * t * b2) * (k : Int) := by rw [← Int.mul_assoc, Int.mul_assoc (n * t), Int.mul_comm (k : Int) b2, ← Int.mul_assoc]
  exact Int.eq_of_mul_eq_mul_right (by omega) f
theorem Tms.join (ok : v.Ok) (ou : u.Ok) {s : Sv} {d : Int} {x y : Option (List Int)} (h1 : JoinM v s d x) (h2 : JoinM u (tm n s) (n * d) y) : x = none ∨ ∃ ms ns, x = some ms ∧ y = some ns ∧ ns.length ≤ ms.length := by
  cases x with
  | none => exact .inl rfl
  | some ms =>
    obtain ⟨a1, a2, a3⟩ := h1
    have e : gapM u (tm n s) (n * d) (ms.map fun k => n * k) = 0 := by
      have e1 : (((tm n s).1 + n * d, (tm n s).2) : Sv) = tm n (s.1 + d, s.2) := by
        ext
        · show n * s.1 + n * d = n * (s.1 + d); rw [Int.mul_add]
        · rfl
      unfold gapM
      rw [e1, Tms.mvs o ok ou, Tms.mvs o ok ou]
      unfold gapM at a1
      show n * (PD.mvs v (s.1 + d, s.2) ms).1 - n * (PD.mvs v s ms).1 = 0
      rw [← Int.mul_sub, a1, Int.mul_zero]
    have nz : ∀ m ∈ ms.map (fun k => n * k), m ≠ 0 := fun m hm => by
      obtain ⟨k, hk, rfl⟩ := List.mem_map.mp hm
      exact Int.mul_ne_zero (by have := o.n0; omega) (a2 k hk)
    cases y with
    | none => exact absurd e (h2 _ nz)
    | some ns =>
      have := h2.2.2 _ nz e
      rw [List.length_map] at this
      exact .inr ⟨ms, ns, rfl, rfl, this⟩
end
end PD

/-! PD167: best heights of a device times a number; combs shifted, and times a number -/
namespace PD
open PySem PySem.Spec PyProof.Rows L2 Evl
section
variable {v u : Dv} {N : Nat} (o : Tms v u (N : Int))
include o
theorem Tms.reach (ok : v.Ok) (ou : u.Ok) (h : Int) (a g : Nat) : reachH u ((N : Int) * h) (N * a) (N * g) = (N : Int) * reachH v h a g := by
  by_cases z : g = a
  · rw [z, reach_own ok, reach_own ou]
  · have n0 : 0 < N := by have := o.n0; omega
    have z' : N * g ≠ N * a := fun q => z (Nat.eq_of_mul_eq_mul_left n0 q)
    have e1 := reach_mv ok h z
    have e2 := reach_mv ou ((N : Int) * h) z'
    have e3 := Tms.mv o ok ou (h, (a : Int)) ((g : Int) - (a : Int))
    rw [e1] at e3
    have ea : (((N * a : Nat) : Int)) = (N : Int) * (a : Int) := Int.natCast_mul ..
    have eg : (((N * g : Nat) : Int)) = (N : Int) * (g : Int) := Int.natCast_mul ..
    rw [ea, eg, ← Int.mul_sub] at e2
    have e4 := e2.symm.trans e3
    exact congrArg Prod.fst e4
theorem Tms.go (ok : v.Ok) (ou : u.Ok) : ∀ (gs : List Nat) (h : Int) (a : Nat), goS u ((N : Int) * h) (N * a) (gs.map fun g => N * g) = ((N : Int) * (goS v h a gs).1, N * (goS v h a gs).2)
  | [], h, a => rfl
  | g :: gs, h, a => by
    show goS u (reachH u ((N : Int) * h) (N * a) (N * g)) (N * g) (gs.map fun g => N * g) = _
    rw [Tms.reach o ok ou]
    exact Tms.go ok ou gs _ _
theorem Tms.best (ok : v.Ok) (ou : u.Ok) {R a c : Nat} (ha : a ≤ R) {h m m2 : Int} (h1 : m ∈ (itT v (startT R a h) c).filterMap id) (h2 : ∀ y ∈ (itT u (startT (N * R) (N * a) ((N : Int) * h)) c).filterMap id, y ≤ m2) : (N : Int) * m ≤ m2 := by
  obtain ⟨x, hx, ex⟩ := List.mem_filterMap.mp h1
  have ex' : x = some m := ex
  subst ex'
  obtain ⟨g, hg⟩ := List.mem_iff_getElem?.mp hx
  obtain ⟨gs, l, b, e⟩ := it_sound ok ha hg
  have e2 := Tms.go o ok ou gs h a
  rw [e] at e2
  obtain ⟨y, hy, le⟩ := it_comp ou (R := N * R) (a := N * a) (h := (N : Int) * h) (Nat.mul_le_mul_left N ha) c (gs := gs.map fun g => N * g) (by rw [List.length_map, l]) (fun z hz => by
    obtain ⟨w, hw, rfl⟩ := List.mem_map.mp hz
    exact Nat.mul_le_mul_left N (b w hw))
  rw [e2] at hy le
  have := h2 y (List.mem_filterMap.mpr ⟨some y, List.mem_of_getElem? hy, rfl⟩)
  have le' : (N : Int) * m ≤ y := le
  omega
end
def tmC (n : Int) (c : Comb) : Comb := ⟨n * c.p, c.ts.map fun t => n * t⟩
theorem tmC_ok {c : Comb} (ok : c.Ok) {n : Int} (n0 : 0 < n) (h : n * c.p ≤ 24) : (tmC n c).Ok := by
  refine ⟨?_, h, fun e => ok.ne (List.map_eq_nil_iff.mp e), fun t ht => ?_, fun t ht => ?_, ?_⟩
  · have := Int.mul_pos n0 (show 0 < c.p by have := ok.p1; omega)
    show 1 ≤ n * c.p
    omega
  · obtain ⟨x, hx, rfl⟩ := List.mem_map.mp ht
    exact Int.mul_nonneg (by omega) (ok.low x hx)
  · obtain ⟨x, hx, rfl⟩ := List.mem_map.mp ht
    exact Int.mul_lt_mul_of_pos_left (ok.high x hx) n0
  · exact List.pairwise_map.mpr (ok.up.imp fun h => Int.mul_lt_mul_of_pos_left h n0)
theorem tmC_at {c : Comb} {n : Int} (n0 : 0 < n) (y : Int) : caught (tmC n c) (n * y) = caught c y := by
  unfold caught
  show decide (n * y % (n * c.p) ∈ c.ts.map fun t => n * t) = _
  rw [Int.mul_emod_mul_of_pos _ _ n0]
  congr 1
  refine propext ⟨fun h => ?_, fun h => List.mem_map.mpr ⟨_, h, rfl⟩⟩
  obtain ⟨t, ht, e⟩ := List.mem_map.mp h
  have := Int.eq_of_mul_eq_mul_left (show n ≠ 0 by omega) e
  rw [← this]
  exact ht
theorem tmC_no {c : Comb} {n : Int} (n0 : 0 < n) (y : Int) (h : caught (tmC n c) y = true) : y % n = 0 := by
  have h' : y % (n * c.p) ∈ c.ts.map fun t => n * t := of_decide_eq_true h
  obtain ⟨t, _, e⟩ := List.mem_map.mp h'
  have e2 := Int.emod_add_mul_ediv y (n * c.p)
  have e' : n * t = y % (n * c.p) := e
  rw [← e', Int.mul_assoc, ← Int.mul_add] at e2
  rw [← e2, Int.mul_emod_right]
theorem tms_of {v : Dv} {n : Int} (n0 : 0 < n) : Tms v (tmC n v.1, tmC n v.2) n := ⟨n0, rfl, rfl, tmC_at n0, tmC_no n0, tmC_at n0, tmC_no n0⟩
end PD

/-! PD168: a test that is asked at times, and says no -/
namespace PD
open PySem PySem.Spec PyProof.Rows L2 Evl
section
variable {c : Cn} {ds : DS} {pl : List D}
theorem ite_wt {b : Bool} {tt : TT} {Ψ : Bool → List D → Prop} (h1 : b = true → WT c tt ds pl fun b1 p1 => b1 = false ∧ p1 = pl) (hk : Ψ false pl) : if b = true then WT c tt ds pl Ψ else Ψ false pl := by
  cases b with
  | true => exact (h1 rfl).mono fun b1 p1 ⟨e1, e2⟩ => by rw [e1, e2]; exact hk
  | false => exact hk
end
theorem okD_rowsF {v : Dv} (ok : v.Ok) (arm : Int) : okD 20 (.list ((rowsF v arm (spanN v)).1.map rowD)) := fun x hx => by
  obtain ⟨q, hq, rfl⟩ := List.mem_map.mp hx
  obtain ⟨cm, lc⟩ := com_lcmV ok
  have sl := (spanN_eq ok cm lc).2
  obtain ⟨h1, h2, mn⟩ := rowsF_in ok _ q hq
  have b0 := mn.b0
  have b5 := mn.b5
  have t0 := mn.t0
  have tl := (mn.le_span ok (show 0 < q.1 by omega)).1
  have tm : q.1 * q.2.2 ≤ 600 * 576 := Int.mul_le_mul (by omega) b5 (by omega) (by omega)
  intro y hy
  simp only [List.mem_cons, List.not_mem_nil, or_false] at hy
  rcases hy with rfl | rfl | rfl
  · exact Nat.lt_of_le_of_lt (show _ ≤ 1000 by omega) (by decide +kernel)
  · exact Nat.lt_of_le_of_lt (show _ ≤ 600 * 576 by omega) (by decide +kernel)
  · exact Nat.lt_of_le_of_lt (show _ ≤ 1000 by omega) (by decide +kernel)
end PD

/-! PD169: two bars, times a number -/
namespace PD
open PySem PySem.Spec PyProof.Rows L2 Evl
theorem min_tm {n a b : Int} (n0 : 0 < n) : min (n * a) (n * b) = n * min a b := by
  by_cases z : a ≤ b
  · have := Int.mul_le_mul_of_nonneg_left z (show 0 ≤ n by omega)
    rw [Int.min_eq_left z, Int.min_eq_left this]
  · have := Int.mul_le_mul_of_nonneg_left (show b ≤ a by omega) (show 0 ≤ n by omega)
    rw [Int.min_eq_right (show b ≤ a by omega), Int.min_eq_right this]
theorem gap_tm {n a b : Int} (n0 : 0 < n) : (((n * b - n * a).natAbs : Nat) : Int) = n * (((b - a).natAbs : Nat) : Int) := by
  rw [← Int.mul_sub, Int.natAbs_mul, Int.natCast_mul, Int.natAbs_of_nonneg (show 0 ≤ n by omega)]
theorem span_tm (n z : Int) : [n * z, -(n * z)] = ([z, -z] : List Int).map fun k => n * k := by
  show _ = [n * z, n * -z]
  rw [Int.mul_neg]
end PD

/-! PD170: best heights are near -/
namespace PD
open PySem PySem.Spec PyProof.Rows L2 Evl
theorem best_near {v : Dv} (ok : v.Ok) {R a c : Nat} (hR : R ≤ 24) (ha : a ≤ R) {h m : Int} (h1 : m ∈ (itT v (startT R a h) c).filterMap id) : m.natAbs ≤ h.natAbs + 24 * c := by
  obtain ⟨x, hx, ex⟩ := List.mem_filterMap.mp h1
  have ex' : x = some m := ex
  subst ex'
  obtain ⟨g, hg⟩ := List.mem_iff_getElem?.mp hx
  obtain ⟨gs, l, b, e⟩ := it_sound ok ha hg
  have q := goS_bd ok hR gs (h := h) ha b
  rw [e, l] at q
  exact q
end PD

/-! PD171: the pitches of three laps -/
namespace PD
open PySem PySem.Spec PyProof.Rows L2 Evl
theorem laps3 {j : Nat} (hj : j < 3) : ∃ (most : Int) (N : Nat), ixD (.list [.int 24, .int 8, .int 4]) (j : Int) = some (.int most) ∧ 1 ≤ most ∧ most ≤ 24 ∧ (0 < (j : Int) → ixD (.list [.int 3, .int 2]) ((j : Int) - 1) = some (.int (N : Int)) ∧ 1 ≤ N ∧ N ≤ 3 ∧ (N : Int) * most ≤ 24) := by
  have h : j = 0 ∨ j = 1 ∨ j = 2 := by omega
  rcases h with rfl | rfl | rfl
  · exact ⟨24, 1, rfl, by decide, by decide, fun z => absurd z (by decide)⟩
  · exact ⟨8, 3, rfl, by decide, by decide, fun _ => ⟨rfl, by decide, by decide, by decide⟩⟩
  · exact ⟨4, 2, rfl, by decide, by decide, fun _ => ⟨rfl, by decide, by decide, by decide⟩⟩
end PD

/-! PD172: objects: what stands of them beside the data, changed and read -/
namespace PD
open PySem PySem.Spec PyProof.Rows L2 Evl
abbrev Fs := Str → Option W
def noFs : Fs := fun _ => none
def setF (fs : Fs) (f : Str) (w : W) : Fs := fun g => if g = f then some w else fs g
def Dj (P G : Hp) : Prop := ∀ a o, P a = some o → G a = none
theorem Dj.symm {P G : Hp} (h : Dj P G) : Dj G P := fun a o q => by
  cases z : P a with
  | none => rfl
  | some u => rw [h a u z] at q; cases q
structure Ob where
  x : Addr
  C : Addr
  n : Nat
  fs : Fs
def FldOk (P G : Hp) (v : V) : W → Prop
  | .d x => R G v x
  | .o xs => ∃ p us, v = .ref p ∧ P p = some (.lst us) ∧ RA G us xs
  | .v x => v = x
def ObjAt (P G : Hp) (o : Ob) : Prop := ∃ dx vs, P o.x = some (.ins o.C dx vs) ∧ P dx = some (.own o.x) ∧ vs.length = o.n ∧ (∀ f, o.fs f = none → vs.lookup f = none) ∧ (∀ f w, o.fs f = some w → ∃ v, vs.lookup f = some v ∧ FldOk P G v w) ∧
  (∀ f g xs ys p, o.fs f = some (.o xs) → o.fs g = some (.o ys) → vs.lookup f = some (.ref p) → vs.lookup g = some (.ref p) → f = g)
def minus (P Q : Hp) : Hp := fun a => match Q a with
  | some _ => none
  | none => P a
def Sep (P G : Hp) : List Ob → Prop
  | [] => True
  | o :: r => ∃ P1 P2, Ex P1 P ∧ Ex P2 P ∧ Dj P1 P2 ∧ ObjAt P1 G o ∧ Sep P2 G r
/-! ### a context that bears objects -/
def Snap (c : Cn) (G0 : Hp) : Prop := ∀ a o, G0 a = some o → c.H0 a = some o ∧ ¬ c.hd a ∧ c.pool ≠ some a ∧ c.pin a = none
section
variable {c b : Cn} {K : PySem.W.Frag} {ds : DS} {pl : List D} {t u : TS} {D' : Ends} {G0 G H : Hp} {σ : L2.St} {E : EE} {Φ : W → List D → Prop} {te ta tb : TE} {tr : TA} {tt : TT}
def Cn.swap (c : Cn) (P1 P' G' : Hp) : Cn := { c with H0 := orP c.H0 G', pin := orP P' (minus c.pin P1) }
structure Objs (b c : Cn) (l : List Ob) : Prop where
  po : c.pool = b.pool
  hd : c.hd = b.hd
  h0 : Ex b.H0 c.H0
  ex : ∃ G0 P, Snap c G0 ∧ Ex P c.pin ∧ (∀ a o, b.pin a = some o → c.pin a = some o ∧ P a = none) ∧ (∀ a o, P a = some o → c.H0 a = none ∧ ¬ c.hd a ∧ c.pool ≠ some a) ∧ Sep P G0 l
end
end PD

/-! PD173: promises of methods and properties, and their calls -/
namespace PD
open PySem PySem.Spec PyProof.Rows L2 Evl
def spM (C : Addr) (F : Nat → Fs → List D → (D → Nat → Fs → Prop) → Prop) : Sp := fun vs H Q _ => ∃ G P x n fs vs' ds, vs = .ref x :: vs' ∧ Ex G H ∧ Ex P H ∧ Dj P G ∧ ObjAt P G ⟨x, C, n, fs⟩ ∧ RA G vs' ds ∧ F n fs ds fun d n' fs' => ∀ v P' G' H',
  (∀ a u, P a = none → H a = some u → H' a = some u) → Ex P' H' → (∀ a u, P' a = some u → (∃ u, P a = some u) ∨ H a = none) → Ex G' H' → Ex G G' → (∀ a u, P a = none → H a = some u → G a = none → G' a = none) → Dj P' G' → ObjAt P' G' ⟨x, C, n', fs'⟩ → R G' v d → Q v H'
def spG (C : Addr) (F : Nat → Fs → (D → Prop) → Prop) : Sp := fun vs H Q _ => ∃ G P x n fs, vs = [.ref x] ∧ Ex G H ∧ Ex P H ∧ Dj P G ∧ ObjAt P G ⟨x, C, n, fs⟩ ∧ F n fs fun d => ∀ v G' H', Ex H H' → Ex G' H' → Ex G G' → (∀ a u, H a = some u → G a = none → G' a = none) → R G' v d → Q v H'
section
variable {c b : Cn} {K : PySem.W.Frag} {ds : DS} {pl : List D} {t u : TS} {D' : Ends} {G0 G H : Hp} {σ : L2.St} {E : EE} {Φ : W → List D → Prop} {te ta tb : TE} {tr : TA} {tt : TT} {Ek : XK} {l : List Ob} {k i : Nat} {o : Ob} {C : Addr} {m f : Str}
/-! ### within a method -/
end
end PD

/-! PD174: methods run where nothing is shown; how methods begin and end; statements over objects -/
namespace PD
open PySem PySem.Spec PyProof.Rows L2 Evl
section
variable {X : Cx} {k : Nat} {f C : Addr} {fd : FuncData} {ps : List Str} {sp : Sp} {x m : Str} {p pos apos : Pos} {e o : Expr} {es : List Expr} {ta : TE} {t : TA}
theorem call_noguard {a : Args} : (Code.builtin "type.__call__" a).guards = [] := by
  unfold Code.guards
  rw [if_neg]
  show ¬ (guardIds.contains "type.__call__" = true)
  decide +kernel
end
/-! ### promises by class and name -/
section
variable (P : Program) (w : World) (K : PySem.W.Frag) (mg : Str → Option Value) (base : Heap) (k : Nat) (C : Addr)
def DfM (m : Str) (ps : List Str) (sp : Sp) : Prop := ∃ f fd, FG P w K mg base k f fd ps sp ∧ Meth K C m f ∧ Binds K fd ps []
def DfI (ps : List Str) (sp : Sp) : Prop := ∃ f fd, FG P w K mg base k f fd ps sp ∧ Mk K C f ∧ Binds K fd ps []
def DfG (m : Str) (ps : List Str) (sp : Sp) : Prop := ∃ f pp fd, FG P w K mg base k f fd ps sp ∧ PropOf K C m pp f ∧ Binds K fd ps []
end
section
variable {X : Cx} {k : Nat} {C : Addr} {ps : List Str} {sp : Sp} {x m : Str} {p pos apos : Pos} {e o : Expr} {es : List Expr} {ta : TE} {t : TA}
end
end PD

/-! PD175: how methods begin and end; a field set, a field's list grown; loops over objects -/
namespace PD
open PySem PySem.Spec PyProof.Rows L2 Evl
section
variable {P : Program} {w : World} {K : PySem.W.Frag} {mg : Str → Option Value} {base : Heap} {k : Nat} {f : Addr} {fd : FuncData} {ps : List Str}
end
section
variable {c b : Cn} {K : PySem.W.Frag} {ds : DS} {pl : List D} {t u : TS} {D' : Ends} {G0 G H : Hp} {σ : L2.St} {E : EE} {Φ : W → List D → Prop} {te ta tb tv : TE} {tr : TA} {tt : TT} {Ek : XK} {l : List Ob} {k i : Nat} {o : Ob} {C : Addr} {m f : Str}
def Ob.setN (o : Ob) (f : Str) : Nat := if (o.fs f).isSome then o.n else o.n + 1
/-! ### order and loops -/
end
end PD

/-! PD176: live bars -/
namespace PD
open PySem PySem.Spec PyProof.Rows L2 Evl
abbrev Plc := Int × Int × Comb
def plcD (t : Plc) : D := .tuple [.int t.1, .int t.2.1, t.2.2.d]
structure BS where
  gr : Comb
  calls : List D
  plcs : List Plc
def barF (s : BS) : Fs := fun f => if f = "_ground" then some (.d s.gr.d) else if f = "_calls" then some (.o s.calls) else if f = "_places" then some (.o (s.plcs.map plcD)) else none
abbrev FM := Nat → Fs → List D → (D → Nat → Fs → Prop) → Prop
abbrev FGt := Nat → Fs → (D → Prop) → Prop
def initF : FM := fun n fs ds k => n = 0 ∧ fs = noFs ∧ ∃ (v : Dv) (s : Sv), ds = [v.d, s.d] ∧ v.Ok ∧ held v s = true ∧ k .none 3 (barF ⟨v.1, [], [(s.1, s.2, v.2)]⟩)
def doneF : FM := fun n fs ds k => ∃ s c p, fs = barF s ∧ ds = [c, plcD p] ∧ s.calls.length < sizeLine ∧ s.plcs.length < sizeLine ∧ k .none n (barF ⟨s.gr, s.calls ++ [c], s.plcs ++ [p]⟩)
def pumpP (s : BS) (p : Plc) (span : Int) (times : Nat) : BS := ⟨s.gr, s.calls ++ [.tuple [.str "pump", .int span, .int (times : Int)]], s.plcs ++ [((rp (s.gr, p.2.2) [span, -span] (p.1, p.2.1) times).1, p.2.1, p.2.2)]⟩
def pumpF : FM := fun n fs ds k => ∃ s ps p span, ∃ times : Nat, fs = barF s ∧ s.plcs = ps ++ [p] ∧ ds = [.int span, .int (times : Int)] ∧ 1 ≤ span ∧ 1 ≤ times ∧ Dv.Ok (s.gr, p.2.2) ∧ span.natAbs < BB ∧ times < BB ∧ p.1.natAbs < BB ∧ s.calls.length < 1000 ∧ s.plcs.length < 1000 ∧
  k .none n (barF (pumpP s p span times))
def heightF : FGt := fun _ fs k => ∃ s ps p, fs = barF s ∧ s.plcs = ps ++ [p] ∧ k (.int p.1)
def handF : FGt := fun _ fs k => ∃ s ps p, fs = barF s ∧ s.plcs = ps ++ [p] ∧ k (.int p.2.1)
def difs : List Int → List Int
  | a :: b :: r => (b - a) :: difs (b :: r)
  | _ => []
def risesF : FGt := fun _ fs k => ∃ s, fs = barF s ∧ s.plcs.length < 1000 ∧ k (.list ((difs (s.plcs.map (·.1))).map PyData.int))
end PD

/-! PD177: a class as it stands at the top, and its methods -/
namespace PD
open PySem PySem.Spec PyProof.Rows L2 Evl
def clA (mg : Str → Option Value) (x : Str) : Addr := match mg x with
  | some (.ref a) => a
  | _ => 0
structure ClsTop (K : PySem.W.Frag) (mg : Str → Option Value) (x : Str) (fs : List Str) : Prop where
  at_ : mg x = some (.ref (clA mg x))
  cl : Cls K (clA mg x)
  na : ∀ f ∈ fs, NoAttr K (clA mg x) f
def HereM (K : PySem.W.Frag) (C : Addr) (m qual : Str) (st : Stmt) (ps : List Str) (f : Addr) (fd : FuncData) : Prop := Fun K m qual st f fd ∧ Meth K C m f ∧ Binds K fd ps []
def HereI (K : PySem.W.Frag) (C : Addr) (m qual : Str) (st : Stmt) (ps : List Str) (f : Addr) (fd : FuncData) : Prop := Fun K m qual st f fd ∧ Mk K C f ∧ Binds K fd ps []
def HereG (K : PySem.W.Frag) (C pp : Addr) (m qual : Str) (st : Stmt) (ps : List Str) (f : Addr) (fd : FuncData) : Prop := Fun K m qual st f fd ∧ PropOf K C m pp f ∧ Binds K fd ps []
end PD

/-! PD178: a comprehension over a range with a step -/
namespace PD
open PySem PySem.Spec PyProof.Rows L2 Evl
section
variable {c : Cn} {K : PySem.W.Frag} {ds : DS} {pl : List D} {Φ : W → List D → Prop} {te : TE} {tr : TA} {tt : TT} {j : Nat}
end
end PD

/-! PD179: ends, branches, rises -/
namespace PD
open PySem PySem.Spec PyProof.Rows L2 Evl
section
variable {c b : Cn} {K : PySem.W.Frag} {ds : DS} {pl : List D} {t u : TS} {D' D2 : Ends} {G0 : Hp} {E : EE} {Φ : W → List D → Prop} {te : TE} {tt : TT} {l : List Ob}
end
end PD

/-! PD180: loops over what a tuple bears; two bars over one hand -/
namespace PD
open PySem PySem.Spec PyProof.Rows L2 Evl
section
variable {c b : Cn} {K : PySem.W.Frag} {ds : DS} {pl : List D} {t u : TS} {D' : Ends} {G0 : Hp} {tl : TE}
end
end PD

/-! PD181: a field's list cut short, its length; more of live bars -/
namespace PD
open PySem PySem.Spec PyProof.Rows L2 Evl
section
variable {c b : Cn} {K : PySem.W.Frag} {ds : DS} {pl : List D} {t u : TS} {D' : Ends} {G0 G H : Hp} {σ : L2.St} {E : EE} {Φ : W → List D → Prop} {te ta tb tv : TE} {tr : TA} {tt : TT} {Ek : XK} {l : List Ob} {k i : Nat} {o : Ob} {C : Addr} {m f : Str}
end
end PD

/-! PD182: live bars moved, taken back, with another grip, their device -/
namespace PD
open PySem PySem.Spec PyProof.Rows L2 Evl
section
variable {c b : Cn} {K : PySem.W.Frag} {ds : DS} {pl : List D} {Φ : W → List D → Prop} {l : List Ob} {k i : Nat} {o : Ob} {f : Str}
end
def moveP (s : BS) (p : Plc) (by_ : Int) : BS := ⟨s.gr, s.calls ++ [.tuple [.str "move", .int by_]], s.plcs ++ [((mv (s.gr, p.2.2) (p.1, p.2.1) by_).1, (mv (s.gr, p.2.2) (p.1, p.2.1) by_).2, p.2.2)]⟩
def moveF : FM := fun n fs ds k => ∃ s ps p by_, fs = barF s ∧ s.plcs = ps ++ [p] ∧ ds = [.int by_] ∧ by_ ≠ 0 ∧ Dv.Ok (s.gr, p.2.2) ∧ s.calls.length < 1000 ∧ s.plcs.length < 1000 ∧ k .none n (barF (moveP s p by_))
def undoF : FM := fun n fs ds k => ∃ s cs c ps p, fs = barF s ∧ s.calls = cs ++ [c] ∧ s.plcs = ps ++ [p] ∧ ds = [] ∧ k .none n (barF ⟨s.gr, cs, ps⟩)
def gripP (s : BS) (p : Plc) (c : Comb) : BS := ⟨s.gr, s.calls ++ [.tuple [.str "grip", c.d]], s.plcs ++ [(p.1, p.2.1, c)]⟩
def gripF : FM := fun n fs ds k => ∃ s ps p, ∃ c : Comb, fs = barF s ∧ s.plcs = ps ++ [p] ∧ ds = [c.d] ∧ c.Ok ∧ s.gr.Ok ∧ held (s.gr, c) (p.1, p.2.1) = true ∧ s.calls.length < 1000 ∧ s.plcs.length < 1000 ∧ k .none n (barF (gripP s p c))
def deviceF : FGt := fun _ fs k => ∃ s ps p, fs = barF s ∧ s.plcs = ps ++ [p] ∧ k (Dv.d (s.gr, p.2.2))
end PD

/-! PD183: a method that hands back another object of its class -/
namespace PD
open PySem PySem.Spec PyProof.Rows L2 Evl
section
variable {c b : Cn} {K : PySem.W.Frag} {ds : DS} {pl : List D} {t u : TS} {D' : Ends} {G0 G H : Hp} {σ : L2.St} {E : EE} {Φ : W → List D → Prop} {te ta tb tv : TE} {tr : TA} {tt : TT} {Ek : XK} {C : Addr} {m f : Str}
end
def spK (C : Addr) (F : Nat → Fs → (Nat → Fs → Nat → Fs → Prop) → Prop) : Sp := fun vs H Q _ => ∃ G P x n fs, vs = [.ref x] ∧ Ex G H ∧ Ex P H ∧ Dj P G ∧ ObjAt P G ⟨x, C, n, fs⟩ ∧ F n fs fun n' fs' n2 fs2 => ∀ x2 P' P2 G' H',
  (∀ a u, P a = none → H a = some u → H' a = some u) → Ex P' H' → (∀ a u, P' a = some u → (∃ u, P a = some u) ∨ H a = none) → Ex P2 H' → (∀ a u, P2 a = some u → (∃ u, P a = some u) ∨ H a = none) → Dj P2 P' → Ex G' H' → Ex G G' →
  (∀ a u, P a = none → H a = some u → G a = none → G' a = none) → Dj P' G' → Dj P2 G' → ObjAt P' G' ⟨x, C, n', fs'⟩ → ObjAt P2 G' ⟨x2, C, n2, fs2⟩ → Q (.ref x2) H'
section
variable {c b : Cn} {K : PySem.W.Frag} {ds : DS} {pl : List D} {D' : Ends} {G0 : Hp} {Ek : XK} {l : List Ob} {k i j : Nat} {o : Ob} {C : Addr} {m f : Str}
end
section
variable {P : Program} {w : World} {K : PySem.W.Frag} {mg : Str → Option Value} {base : Heap} {k : Nat} {f : Addr} {fd : FuncData} {ps : List Str}
end
section
variable {c b : Cn} {K : PySem.W.Frag} {ds : DS} {pl : List D} {D' : Ends} {G0 : Hp} {l : List Ob} {k i : Nat} {o : Ob} {f : Str}
end
end PD

/-! PD184: live bars forked -/
namespace PD
open PySem PySem.Spec PyProof.Rows L2 Evl
abbrev FK := Nat → Fs → (Nat → Fs → Nat → Fs → Prop) → Prop
def forkF : FK := fun n fs k => ∃ s p ps, fs = barF s ∧ s.plcs = p :: ps ∧ Dv.Ok (s.gr, p.2.2) ∧ held (s.gr, p.2.2) (p.1, p.2.1) = true ∧ k n (barF s) 3 (barF s)
section
variable {c : Cn} {ds : DS} {pl : List D} {D' : Ends} {G0 : Hp} {i : Nat} {x : V}
end
end PD

namespace K
open PySem PySem.Spec PyProof.Rows L2 Evl PD
/-! ### the text of the program and of the law, by places -/
def topS (i : Nat) : Stmt := PySem.Challenge.pw_twocombs_k54_whole_everything_shifted_an.main.body.getD i (.Pass ⟨0, 0, 0, 0⟩)
abbrev s_is_whole : Stmt := topS 12
theorem sc_is_whole : FnScope ["value"] ["value"] (defScope s_is_whole) := ⟨rfl, rfl, rfl, by decide +kernel, rfl, by decide +kernel, by decide +kernel⟩
abbrev s_is_pair : Stmt := topS 13
theorem sc_is_pair : FnScope ["value"] ["value"] (defScope s_is_pair) := ⟨rfl, rfl, rfl, by decide +kernel, rfl, by decide +kernel, by decide +kernel⟩
abbrev s_is_whole_pair : Stmt := topS 14
theorem sc_is_whole_pair : FnScope ["value"] ["value"] (defScope s_is_whole_pair) := ⟨rfl, rfl, rfl, by decide +kernel, rfl, by decide +kernel, by decide +kernel⟩
abbrev s_check_whole : Stmt := topS 15
theorem sc_check_whole : FnScope ["value", "name"] ["value", "name"] (defScope s_check_whole) := ⟨rfl, rfl, rfl, by decide +kernel, rfl, by decide +kernel, by decide +kernel⟩
abbrev s_check_least : Stmt := topS 16
theorem sc_check_least : FnScope ["value", "least", "name"] ["value", "least", "name"] (defScope s_check_least) := ⟨rfl, rfl, rfl, by decide +kernel, rfl, by decide +kernel, by decide +kernel⟩
abbrev s_check_between : Stmt := topS 17
theorem sc_check_between : FnScope ["value", "least", "greatest", "name"] ["value", "least", "greatest", "name"] (defScope s_check_between) := ⟨rfl, rfl, rfl, by decide +kernel, rfl, by decide +kernel, by decide +kernel⟩
abbrev s_catches : Stmt := topS 20
theorem sc_catches : FnScope ["comb", "number", "pitch", "teeth"] ["comb", "number"] (defScope s_catches) := ⟨rfl, rfl, rfl, by decide +kernel, rfl, by decide +kernel, by decide +kernel⟩
abbrev s_floor_catch : Stmt := topS 21
theorem sc_floor_catch : FnScope ["comb", "number", "pitch", "teeth", "rest", "start", "lower", "tooth"] ["comb", "number"] (defScope s_floor_catch) := ⟨rfl, rfl, rfl, by decide +kernel, rfl, by decide +kernel, by decide +kernel⟩
abbrev s_copied_comb : Stmt := topS 22
theorem sc_copied_comb : FnScope ["comb", "pitch", "teeth"] ["comb"] (defScope s_copied_comb) := ⟨rfl, rfl, rfl, by decide +kernel, rfl, by decide +kernel, by decide +kernel⟩
abbrev s_common_pitch : Stmt := topS 23
theorem sc_common_pitch : FnScope ["device", "ground", "grip"] ["device"] (defScope s_common_pitch) := ⟨rfl, rfl, rfl, by decide +kernel, rfl, by decide +kernel, by decide +kernel⟩
abbrev s_is_pitch : Stmt := topS 24
theorem sc_is_pitch : FnScope ["value"] ["value"] (defScope s_is_pitch) := ⟨rfl, rfl, rfl, by decide +kernel, rfl, by decide +kernel, by decide +kernel⟩
abbrev s_are_teeth : Stmt := topS 25
theorem sc_are_teeth : FnScope ["value", "pitch", "low", "high", "tooth"] ["value", "pitch"] (defScope s_are_teeth) := ⟨rfl, rfl, rfl, by decide +kernel, rfl, by decide +kernel, by decide +kernel⟩
abbrev s_check_comb : Stmt := topS 26
theorem sc_check_comb : FnScope ["comb", "pitch", "teeth"] ["comb"] (defScope s_check_comb) := ⟨rfl, rfl, rfl, by decide +kernel, rfl, by decide +kernel, by decide +kernel⟩
abbrev s_check_device : Stmt := topS 27
theorem sc_check_device : FnScope ["device", "index", "comb"] ["device"] (defScope s_check_device) := ⟨rfl, rfl, rfl, by decide +kernel, rfl, by decide +kernel, by decide +kernel⟩
abbrev s_is_comb : Stmt := topS 28
theorem sc_is_comb : FnScope ["value"] ["value"] (defScope s_is_comb) := ⟨rfl, rfl, rfl, by decide +kernel, rfl, by decide +kernel, by decide +kernel⟩
abbrev s_plain_comb : Stmt := topS 29
theorem sc_plain_comb : FnScope ["comb", "pitch", "teeth", "part"] ["comb"] (defScope s_plain_comb) := ⟨rfl, rfl, rfl, by decide +kernel, rfl, by decide +kernel, by decide +kernel⟩
abbrev s_teeth_under : Stmt := topS 30
theorem sc_teeth_under : FnScope ["teeth", "part", "tooth"] ["teeth", "part"] (defScope s_teeth_under) := ⟨rfl, rfl, rfl, by decide +kernel, rfl, by decide +kernel, by decide +kernel⟩
abbrev s_repeated_teeth : Stmt := topS 31
theorem sc_repeated_teeth : FnScope ["teeth", "part", "pitch", "first", "start", "tooth"] ["teeth", "part", "pitch"] (defScope s_repeated_teeth) := ⟨rfl, rfl, rfl, by decide +kernel, rfl, by decide +kernel, by decide +kernel⟩
abbrev s_is_held : Stmt := topS 34
theorem sc_is_held : FnScope ["device", "height", "hand", "ground", "grip"] ["device", "height", "hand"] (defScope s_is_held) := ⟨rfl, rfl, rfl, by decide +kernel, rfl, by decide +kernel, by decide +kernel⟩
abbrev s_after_move : Stmt := topS 35
theorem sc_after_move : FnScope ["device", "state", "move", "ground", "grip", "height", "hand", "lift", "new_lift"] ["device", "state", "move"] (defScope s_after_move) := ⟨rfl, rfl, rfl, by decide +kernel, rfl, by decide +kernel, by decide +kernel⟩
abbrev s_fits_device : Stmt := topS 36
theorem sc_fits_device : FnScope ["device", "value"] ["device", "value"] (defScope s_fits_device) := ⟨rfl, rfl, rfl, by decide +kernel, rfl, by decide +kernel, by decide +kernel⟩
abbrev s_check_state : Stmt := topS 37
theorem sc_check_state : FnScope ["device", "state"] ["device", "state"] (defScope s_check_state) := ⟨rfl, rfl, rfl, by decide +kernel, rfl, by decide +kernel, by decide +kernel⟩
abbrev s_check_moves : Stmt := topS 38
theorem sc_check_moves : FnScope ["moves", "index", "move"] ["moves"] (defScope s_check_moves) := ⟨rfl, rfl, rfl, by decide +kernel, rfl, by decide +kernel, by decide +kernel⟩
abbrev s_check_moving : Stmt := topS 39
theorem sc_check_moving : FnScope ["device", "state", "moves"] ["device", "state", "moves"] (defScope s_check_moving) := ⟨rfl, rfl, rfl, by decide +kernel, rfl, by decide +kernel, by decide +kernel⟩
abbrev s_moved_state : Stmt := topS 40
theorem sc_moved_state : FnScope ["device", "state", "moves", "height", "hand", "move"] ["device", "state", "moves"] (defScope s_moved_state) := ⟨rfl, rfl, rfl, by decide +kernel, rfl, by decide +kernel, by decide +kernel⟩
abbrev s_comb_slacks : Stmt := topS 42
theorem sc_comb_slacks : FnScope ["comb", "pitch", "_", "rest"] ["comb"] (defScope s_comb_slacks) := ⟨rfl, rfl, rfl, by decide +kernel, rfl, by decide +kernel, by decide +kernel⟩
abbrev s_device_slacks : Stmt := topS 43
theorem sc_device_slacks : FnScope ["device", "ground", "grip"] ["device"] (defScope s_device_slacks) := ⟨rfl, rfl, rfl, by decide +kernel, rfl, by decide +kernel, by decide +kernel⟩
abbrev s_moved_bar : Stmt := topS 44
theorem sc_moved_bar : FnScope ["slacks", "height", "lift", "moves", "ground", "grip", "move", "slack"] ["slacks", "height", "lift", "moves"] (defScope s_moved_bar) := ⟨rfl, rfl, rfl, by decide +kernel, rfl, by decide +kernel, by decide +kernel⟩
abbrev s_repeated_heights : Stmt := topS 45
theorem sc_repeated_heights : FnScope ["slacks", "state", "moves", "ground", "grip", "height", "hand", "lift", "heights", "seen", "place"] ["slacks", "state", "moves"] (defScope s_repeated_heights) := ⟨rfl, rfl, rfl, by decide +kernel, rfl, by decide +kernel, by decide +kernel⟩
abbrev s_cycle_rise : Stmt := topS 46
theorem sc_cycle_rise : FnScope ["heights", "ahead"] ["heights", "ahead"] (defScope s_cycle_rise) := ⟨rfl, rfl, rfl, by decide +kernel, rfl, by decide +kernel, by decide +kernel⟩
abbrev s_far_height : Stmt := topS 47
theorem sc_far_height : FnScope ["heights", "ahead", "times", "length", "rise", "cycles", "rest"] ["heights", "ahead", "times"] (defScope s_far_height) := ⟨rfl, rfl, rfl, by decide +kernel, rfl, by decide +kernel, by decide +kernel⟩
abbrev s_needed_cycles : Stmt := topS 48
theorem sc_needed_cycles : FnScope ["reached", "height", "rise"] ["reached", "height", "rise"] (defScope s_needed_cycles) := ⟨rfl, rfl, rfl, by decide +kernel, rfl, by decide +kernel, by decide +kernel⟩
abbrev s_far_state : Stmt := topS 49
theorem sc_far_state : FnScope ["device", "state", "moves", "times", "_", "hand", "heights", "ahead"] ["device", "state", "moves", "times"] (defScope s_far_state) := ⟨rfl, rfl, rfl, by decide +kernel, rfl, by decide +kernel, by decide +kernel⟩
abbrev s_first_time : Stmt := topS 50
theorem sc_first_time : FnScope ["device", "state", "moves", "height", "heights", "ahead", "times", "reached", "length", "rise", "at"] ["device", "state", "moves", "height"] (defScope s_first_time) := ⟨rfl, rfl, rfl, by decide +kernel, rfl, by decide +kernel, by decide +kernel⟩
abbrev s_round_cycle : Stmt := topS 51
theorem sc_round_cycle : FnScope ["device", "state", "moves", "heights", "ahead", "length", "rise"] ["device", "state", "moves"] (defScope s_round_cycle) := ⟨rfl, rfl, rfl, by decide +kernel, rfl, by decide +kernel, by decide +kernel⟩
abbrev s_check_begun : Stmt := topS 53
theorem sc_check_begun : FnScope ["device", "state"] ["device", "state"] (defScope s_check_begun) := ⟨rfl, rfl, rfl, by decide +kernel, rfl, by decide +kernel, by decide +kernel⟩
abbrev s_check_both : Stmt := topS 54
theorem sc_check_both : FnScope ["device", "state", "second", "start"] ["device", "state", "second", "start"] (defScope s_check_both) := ⟨rfl, rfl, rfl, by decide +kernel, rfl, by decide +kernel, by decide +kernel⟩
abbrev s_shifted_comb : Stmt := topS 55
theorem sc_shifted_comb : FnScope ["comb", "distance", "pitch", "teeth", "tooth"] ["comb", "distance"] (defScope s_shifted_comb) := ⟨rfl, rfl, rfl, by decide +kernel, rfl, by decide +kernel, by decide +kernel⟩
abbrev s_shifted_device : Stmt := topS 56
theorem sc_shifted_device : FnScope ["device", "state", "ground", "grip", "height", "hand"] ["device", "state"] (defScope s_shifted_device) := ⟨rfl, rfl, rfl, by decide +kernel, rfl, by decide +kernel, by decide +kernel⟩
abbrev s_are_alike : Stmt := topS 57
theorem sc_are_alike : FnScope ["device", "state", "second", "start"] ["device", "state", "second", "start"] (defScope s_are_alike) := ⟨rfl, rfl, rfl, by decide +kernel, rfl, by decide +kernel, by decide +kernel⟩
abbrev s_alike_state : Stmt := topS 58
theorem sc_alike_state : FnScope ["device", "state", "ground", "grip", "height", "hand", "pitch", "_", "width", "low"] ["device", "state"] (defScope s_alike_state) := ⟨rfl, rfl, rfl, by decide +kernel, rfl, by decide +kernel, by decide +kernel⟩
abbrev s_check_reach : Stmt := topS 62
theorem sc_check_reach : FnScope ["device", "state", "reach"] ["device", "state", "reach"] (defScope s_check_reach) := ⟨rfl, rfl, rfl, by decide +kernel, rfl, by decide +kernel, by decide +kernel⟩
abbrev s_check_within : Stmt := topS 63
theorem sc_check_within : FnScope ["state", "reach", "_", "hand"] ["state", "reach"] (defScope s_check_within) := ⟨rfl, rfl, rfl, by decide +kernel, rfl, by decide +kernel, by decide +kernel⟩
abbrev s_heights_from : Stmt := topS 64
theorem sc_heights_from : FnScope ["slacks", "height", "hand", "reach", "ground", "grip", "sink", "slack", "lower", "upper", "goal"] ["slacks", "height", "hand", "reach"] (defScope s_heights_from) := ⟨rfl, rfl, rfl, by decide +kernel, rfl, by decide +kernel, by decide +kernel⟩
abbrev s_heights_behind_more : Stmt := topS 65
theorem sc_heights_behind_more : FnScope ["slacks", "heights", "best", "hand", "height", "goal", "reached"] ["slacks", "heights"] (defScope s_heights_behind_more) := ⟨rfl, rfl, rfl, by decide +kernel, rfl, by decide +kernel, by decide +kernel⟩
abbrev s_best_heights : Stmt := topS 66
theorem sc_best_heights : FnScope ["device", "state", "reach", "count", "height", "hand", "slacks", "heights", "_"] ["device", "state", "reach", "count"] (defScope s_best_heights) := ⟨rfl, rfl, rfl, by decide +kernel, rfl, by decide +kernel, by decide +kernel⟩
abbrev s_best_height : Stmt := topS 67
theorem sc_best_height : FnScope ["device", "state", "reach", "count", "height"] ["device", "state", "reach", "count"] (defScope s_best_height) := ⟨rfl, rfl, rfl, by decide +kernel, rfl, by decide +kernel, by decide +kernel⟩
abbrev s_check_hand : Stmt := topS 69
theorem sc_check_hand : FnScope ["device", "hand"] ["device", "hand"] (defScope s_check_hand) := ⟨rfl, rfl, rfl, by decide +kernel, rfl, by decide +kernel, by decide +kernel⟩
abbrev s_check_round : Stmt := topS 70
theorem sc_check_round : FnScope ["moves"] ["moves"] (defScope s_check_round) := ⟨rfl, rfl, rfl, by decide +kernel, rfl, by decide +kernel, by decide +kernel⟩
abbrev s_check_rounds : Stmt := topS 71
theorem sc_check_rounds : FnScope ["device", "hand", "moves"] ["device", "hand", "moves"] (defScope s_check_rounds) := ⟨rfl, rfl, rfl, by decide +kernel, rfl, by decide +kernel, by decide +kernel⟩
abbrev s_mean_rise : Stmt := topS 72
theorem sc_mean_rise : FnScope ["device", "hand", "moves"] ["device", "hand", "moves"] (defScope s_mean_rise) := ⟨rfl, rfl, rfl, by decide +kernel, rfl, by decide +kernel, by decide +kernel⟩
abbrev s_slack_mean : Stmt := topS 73
theorem sc_slack_mean : FnScope ["slacks", "hand", "moves", "ground", "_", "heights", "ahead", "length", "rise", "part"] ["slacks", "hand", "moves"] (defScope s_slack_mean) := ⟨rfl, rfl, rfl, by decide +kernel, rfl, by decide +kernel, by decide +kernel⟩
abbrev s_held_heights : Stmt := topS 74
theorem sc_held_heights : FnScope ["device", "hand"] ["device", "hand"] (defScope s_held_heights) := ⟨rfl, rfl, rfl, by decide +kernel, rfl, by decide +kernel, by decide +kernel⟩
abbrev s_heights_at : Stmt := topS 75
theorem sc_heights_at : FnScope ["device", "hand", "height"] ["device", "hand"] (defScope s_heights_at) := ⟨rfl, rfl, rfl, by decide +kernel, rfl, by decide +kernel, by decide +kernel⟩
abbrev s_heights_behind : Stmt := topS 76
theorem sc_heights_behind : FnScope ["device", "hand", "moves", "slacks", "height"] ["device", "hand", "moves"] (defScope s_heights_behind) := ⟨rfl, rfl, rfl, by decide +kernel, rfl, by decide +kernel, by decide +kernel⟩
abbrev s_stuck_heights : Stmt := topS 77
theorem sc_stuck_heights : FnScope ["device", "hand", "moves", "behind", "height"] ["device", "hand", "moves"] (defScope s_stuck_heights) := ⟨rfl, rfl, rfl, by decide +kernel, rfl, by decide +kernel, by decide +kernel⟩
abbrev s_check_small : Stmt := topS 80
theorem sc_check_small : FnScope ["device", "index", "comb"] ["device"] (defScope s_check_small) := ⟨rfl, rfl, rfl, by decide +kernel, rfl, by decide +kernel, by decide +kernel⟩
abbrev s_check_height : Stmt := topS 81
theorem sc_check_height : FnScope ["device", "hand", "height", "name"] ["device", "hand", "height", "name"] (defScope s_check_height) := ⟨rfl, rfl, rfl, by decide +kernel, rfl, by decide +kernel, by decide +kernel⟩
abbrev s_check_bars : Stmt := topS 82
theorem sc_check_bars : FnScope ["device", "hand", "one", "other"] ["device", "hand", "one", "other"] (defScope s_check_bars) := ⟨rfl, rfl, rfl, by decide +kernel, rfl, by decide +kernel, by decide +kernel⟩
abbrev s_pair_place : Stmt := topS 83
theorem sc_pair_place : FnScope ["slacks", "hand", "one", "other", "ground", "grip", "low"] ["slacks", "hand", "one", "other"] (defScope s_pair_place) := ⟨rfl, rfl, rfl, by decide +kernel, rfl, by decide +kernel, by decide +kernel⟩
abbrev s_moved_place : Stmt := topS 84
theorem sc_moved_place : FnScope ["slacks", "place", "moves", "ground", "grip", "height", "lift", "gap", "low", "low_lift", "high", "_"] ["slacks", "place", "moves"] (defScope s_moved_place) := ⟨rfl, rfl, rfl, by decide +kernel, rfl, by decide +kernel, by decide +kernel⟩
abbrev s_single_moves : Stmt := topS 85
theorem sc_single_moves : FnScope ["slacks", "ground", "grip", "up", "down", "size"] ["slacks"] (defScope s_single_moves) := ⟨rfl, rfl, rfl, by decide +kernel, rfl, by decide +kernel, by decide +kernel⟩
abbrev s_joining_trail : Stmt := topS 86
theorem sc_joining_trail : FnScope ["slacks", "first", "ground", "grip", "pitch", "singles", "before", "waiting", "later", "place", "moves", "reached"] ["slacks", "first"] (defScope s_joining_trail) := ⟨rfl, rfl, rfl, by decide +kernel, rfl, by decide +kernel, by decide +kernel⟩
abbrev s_trail_back : Stmt := topS 87
theorem sc_trail_back : FnScope ["before", "place", "moves", "step", "move"] ["before", "place"] (defScope s_trail_back) := ⟨rfl, rfl, rfl, by decide +kernel, rfl, by decide +kernel, by decide +kernel⟩
abbrev s_joining_count : Stmt := topS 88
theorem sc_joining_count : FnScope ["device", "hand", "one", "other", "moves"] ["device", "hand", "one", "other"] (defScope s_joining_count) := ⟨rfl, rfl, rfl, by decide +kernel, rfl, by decide +kernel, by decide +kernel⟩
abbrev s_joining_moves : Stmt := topS 89
theorem sc_joining_moves : FnScope ["device", "hand", "one", "other", "slacks", "first"] ["device", "hand", "one", "other"] (defScope s_joining_moves) := ⟨rfl, rfl, rfl, by decide +kernel, rfl, by decide +kernel, by decide +kernel⟩
abbrev s_span_rise : Stmt := topS 91
theorem sc_span_rise : FnScope ["device", "hand", "span"] ["device", "hand", "span"] (defScope s_span_rise) := ⟨rfl, rfl, rfl, by decide +kernel, rfl, by decide +kernel, by decide +kernel⟩
abbrev s_pump_mean : Stmt := topS 92
theorem sc_pump_mean : FnScope ["slacks", "hand", "span"] ["slacks", "hand", "span"] (defScope s_pump_mean) := ⟨rfl, rfl, rfl, by decide +kernel, rfl, by decide +kernel, by decide +kernel⟩
abbrev s_span_rows : Stmt := topS 93
theorem sc_span_rows : FnScope ["device", "hand", "ground", "grip", "slacks", "rows", "last", "span", "mean", "top", "bottom"] ["device", "hand"] (defScope s_span_rows) := ⟨rfl, rfl, rfl, by decide +kernel, rfl, by decide +kernel, by decide +kernel⟩
abbrev s_check_looks : Stmt := topS 96
theorem sc_check_looks : FnScope ["looks", "index", "look"] ["looks"] (defScope s_check_looks) := ⟨rfl, rfl, rfl, by decide +kernel, rfl, by decide +kernel, by decide +kernel⟩
abbrev s_check_told : Stmt := topS 97
theorem sc_check_told : FnScope ["device", "looks"] ["device", "looks"] (defScope s_check_told) := ⟨rfl, rfl, rfl, by decide +kernel, rfl, by decide +kernel, by decide +kernel⟩
abbrev s_all_bars : Stmt := topS 98
theorem sc_all_bars : FnScope ["slacks", "ground", "grip", "above", "sink", "lift", "slack"] ["slacks"] (defScope s_all_bars) := ⟨rfl, rfl, rfl, by decide +kernel, rfl, by decide +kernel, by decide +kernel⟩
abbrev s_seen_bars : Stmt := topS 99
theorem sc_seen_bars : FnScope ["slacks", "bars", "look", "move", "rise", "seen", "start", "height", "lift", "new_height", "new_lift"] ["slacks", "bars", "look"] (defScope s_seen_bars) := ⟨rfl, rfl, rfl, by decide +kernel, rfl, by decide +kernel, by decide +kernel⟩
abbrev s_clash_index : Stmt := topS 100
theorem sc_clash_index : FnScope ["device", "looks", "slacks", "bars", "index", "look"] ["device", "looks"] (defScope s_clash_index) := ⟨rfl, rfl, rfl, by decide +kernel, rfl, by decide +kernel, by decide +kernel⟩
abbrev s__law_jar : Stmt := topS 102
theorem sc__law_jar : FnScope ["script", "at", "cell"] ["script", "at"] (defScope s__law_jar) := ⟨rfl, rfl, rfl, by decide +kernel, rfl, by decide +kernel, by decide +kernel⟩
abbrev s__law_pick : Stmt := topS 103
theorem sc__law_pick : FnScope ["jar", "bound", "drawn", "mixed"] ["jar", "bound"] (defScope s__law_pick) := ⟨rfl, rfl, rfl, by decide +kernel, rfl, by decide +kernel, by decide +kernel⟩
abbrev s__law_comb : Stmt := topS 104
theorem sc__law_comb : FnScope ["jar", "most", "wide", "many", "left", "found", "lap"] ["jar", "most"] (defScope s__law_comb) := ⟨rfl, rfl, rfl, by decide +kernel, rfl, by decide +kernel, by decide +kernel⟩
abbrev s__law_pair : Stmt := topS 105
theorem sc__law_pair : FnScope ["jar", "most", "one", "two"] ["jar", "most"] (defScope s__law_pair) := ⟨rfl, rfl, rfl, by decide +kernel, rfl, by decide +kernel, by decide +kernel⟩
abbrev s__law_under : Stmt := topS 106
theorem sc__law_under : FnScope ["comb_here", "spot", "rest", "below", "tooth"] ["comb_here", "spot"] (defScope s__law_under) := ⟨rfl, rfl, rfl, by decide +kernel, rfl, by decide +kernel, by decide +kernel⟩
abbrev s__law_moved : Stmt := topS 107
theorem sc__law_moved : FnScope ["pair", "high", "arm", "step", "lift"] ["pair", "high", "arm", "step"] (defScope s__law_moved) := ⟨rfl, rfl, rfl, by decide +kernel, rfl, by decide +kernel, by decide +kernel⟩
abbrev s__law_behind : Stmt := topS 108
theorem sc__law_behind : FnScope ["pair", "high", "arm", "steps", "step"] ["pair", "high", "arm", "steps"] (defScope s__law_behind) := ⟨rfl, rfl, rfl, by decide +kernel, rfl, by decide +kernel, by decide +kernel⟩
abbrev s__law_stand : Stmt := topS 109
theorem sc__law_stand : FnScope ["jar", "pair", "far", "arm", "high"] ["jar", "pair", "far"] (defScope s__law_stand) := ⟨rfl, rfl, rfl, by decide +kernel, rfl, by decide +kernel, by decide +kernel⟩
abbrev s__law_steps : Stmt := topS 110
theorem sc__law_steps : FnScope ["jar", "many", "far", "found", "lap", "size"] ["jar", "many", "far"] (defScope s__law_steps) := ⟨rfl, rfl, rfl, by decide +kernel, rfl, by decide +kernel, by decide +kernel⟩
abbrev s__law_round : Stmt := topS 111
theorem sc__law_round : FnScope ["jar", "many", "far", "found", "lap", "size", "rest"] ["jar", "many", "far"] (defScope s__law_round) := ⟨rfl, rfl, rfl, by decide +kernel, rfl, by decide +kernel, by decide +kernel⟩
abbrev s__law_shifted : Stmt := topS 112
theorem sc__law_shifted : FnScope ["one", "by", "tooth"] ["one", "by"] (defScope s__law_shifted) := ⟨rfl, rfl, rfl, by decide +kernel, rfl, by decide +kernel, by decide +kernel⟩
abbrev s__law_times : Stmt := topS 113
theorem sc__law_times : FnScope ["one", "many", "tooth"] ["one", "many"] (defScope s__law_times) := ⟨rfl, rfl, rfl, by decide +kernel, rfl, by decide +kernel, by decide +kernel⟩
abbrev s__law_shift_right : Stmt := topS 114
theorem sc__law_shift_right : FnScope ["jar", "pair", "stand", "steps", "by", "more", "other", "place", "here", "there", "goal", "due", "laps", "told", "again", "is_small", "looks_here", "step"] ["jar", "pair", "stand", "steps"] (defScope s__law_shift_right) := ⟨rfl, rfl, rfl, by decide +kernel, rfl, by decide +kernel, by decide +kernel⟩
abbrev s__law_times_right : Stmt := topS 115
theorem sc__law_times_right : FnScope ["jar", "pair", "stand", "steps", "many", "other", "place", "here", "there", "laps", "top", "bottom", "again", "size", "arm", "reach_here", "high", "count_here", "one", "some", "first", "last", "two", "step"] ["jar", "pair", "stand", "steps", "many"] (defScope s__law_times_right) := ⟨rfl, rfl, rfl, by decide +kernel, rfl, by decide +kernel, by decide +kernel⟩
abbrev s_law : Stmt := topS 116
theorem sc_law : FnScope ["script", "at", "jar", "lap", "pair", "stand", "steps", "many"] ["script"] (defScope s_law) := ⟨rfl, rfl, rfl, by decide +kernel, rfl, by decide +kernel, by decide +kernel⟩
structure Tx (K : PySem.W.Frag) (mg : Str → Option Value) : Prop where
  n_abs : mg "abs" = none
  n_all : mg "all" = none
  n_bool : mg "bool" = none
  n_divmod : mg "divmod" = none
  n_enumerate : mg "enumerate" = none
  n_int : mg "int" = none
  n_isinstance : mg "isinstance" = none
  n_len : mg "len" = none
  n_list : mg "list" = none
  n_max : mg "max" = none
  n_min : mg "min" = none
  n_range : mg "range" = none
  n_sorted : mg "sorted" = none
  n_sum : mg "sum" = none
  n_tuple : mg "tuple" = none
  n_zip : mg "zip" = none
  c_MOST_COUNT : ∃ t, mg "MOST_COUNT" = some (.int 200 t)
  c_MOST_JOINING_PITCH : ∃ t, mg "MOST_JOINING_PITCH" = some (.int 8 t)
  c_MOST_LOOKS : ∃ t, mg "MOST_LOOKS" = some (.int 12 t)
  c_MOST_MOVES : ∃ t, mg "MOST_MOVES" = some (.int 40 t)
  c_MOST_PITCH : ∃ t, mg "MOST_PITCH" = some (.int 24 t)
  c_MOST_REACH : ∃ t, mg "MOST_REACH" = some (.int 24 t)
  b_gcd : mg "gcd" = some (.builtin "math.gcd")
  b_lcm : mg "lcm" = some (.builtin "math.lcm")

abbrev F_is_whole := det (fun d : D => [d]) (fun _ => True) (fun d => .bool (isWhole d))
abbrev D_is_whole_ (P : Program) (w : World) (K : PySem.W.Frag) (mg : Str → Option Value) (base : Heap) := Df P w K mg base 1 "is_whole" ["value"] (spP F_is_whole)

abbrev F_is_pair := det (fun d : D => [d]) (fun _ => True) (fun d => .bool (isPair d))
abbrev D_is_pair_ (P : Program) (w : World) (K : PySem.W.Frag) (mg : Str → Option Value) (base : Heap) := Df P w K mg base 1 "is_pair" ["value"] (spP F_is_pair)

abbrev F_catches := det (fun a : Comb × Int => [a.1.d, .int a.2]) (fun a => 0 < a.1.p) (fun a => .bool (caught a.1 a.2))
abbrev D_catches_ (P : Program) (w : World) (K : PySem.W.Frag) (mg : Str → Option Value) (base : Heap) := Df P w K mg base 1 "catches" ["comb", "number"] (spP F_catches)

abbrev F_floor_catch := det (fun a : Comb × Int => [a.1.d, .int a.2]) (fun a => a.1.Ok) (fun a => .int (flo a.1 a.2))
abbrev D_floor_catch_ (P : Program) (w : World) (K : PySem.W.Frag) (mg : Str → Option Value) (base : Heap) := Df P w K mg base 1 "floor_catch" ["comb", "number"] (spP F_floor_catch)

abbrev D_copied_comb_ (P : Program) (w : World) (K : PySem.W.Frag) (mg : Str → Option Value) (base : Heap) := Df P w K mg base 1 "copied_comb" ["comb"] (spW copyF)

abbrev F_common_pitch := det (fun v : Dv => [v.d]) Dv.Ok (fun v => .int (lcmV v))
abbrev D_common_pitch_ (P : Program) (w : World) (K : PySem.W.Frag) (mg : Str → Option Value) (base : Heap) := Df P w K mg base 1 "common_pitch" ["device"] (spP F_common_pitch)

abbrev D_teeth_under_ (P : Program) (w : World) (K : PySem.W.Frag) (mg : Str → Option Value) (base : Heap) := Df P w K mg base 1 "teeth_under" ["teeth", "part"] (spW underF)

abbrev F_moved_bar := det (fun a : Dv × Sv × List Int => [slD a.1, .int a.2.1.1, .int (lf a.2.1), .list (a.2.2.map PyData.int)]) (fun a => a.1.Ok) (fun a => .tuple [.int (mvs a.1 a.2.1 a.2.2).1, .int (lf (mvs a.1 a.2.1 a.2.2))])
abbrev D_moved_bar_ (P : Program) (w : World) (K : PySem.W.Frag) (mg : Str → Option Value) (base : Heap) := Df P w K mg base 1 "moved_bar" ["slacks", "height", "lift", "moves"] (spP F_moved_bar)

abbrev F_cycle_rise := det (fun a : Dv × Sv × List Int × Nat × Nat => [.list ((hts a.1 a.2.2.1 a.2.1 (a.2.2.2.1 + 1)).map PyData.int), .int (a.2.2.2.2 : Int)]) (fun a => a.2.2.2.2 < a.2.2.2.1) (fun a => .tuple [.int ((a.2.2.2.1 : Int) - (a.2.2.2.2 : Int)), .int ((rp a.1 a.2.2.1 a.2.1 a.2.2.2.1).1 - (rp a.1 a.2.2.1 a.2.1 a.2.2.2.2).1)])
abbrev D_cycle_rise_ (P : Program) (w : World) (K : PySem.W.Frag) (mg : Str → Option Value) (base : Heap) := Df P w K mg base 1 "cycle_rise" ["heights", "ahead"] (spP F_cycle_rise)

abbrev F_needed_cycles := det (fun a : Int × Int × Int => [.int a.1, .int a.2.1, .int a.2.2]) (fun a => 0 < a.2.2 ∧ a.2.2 < 2 ^ 200) (fun a => .int (need a.1 a.2.1 a.2.2))
abbrev D_needed_cycles_ (P : Program) (w : World) (K : PySem.W.Frag) (mg : Str → Option Value) (base : Heap) := Df P w K mg base 1 "needed_cycles" ["reached", "height", "rise"] (spP F_needed_cycles)

abbrev F_check_within := det (fun a : Sv × Int => [a.1.d, .int a.2]) (fun a => 0 ≤ a.1.2 ∧ a.1.2 ≤ a.2) (fun _ => .none)
abbrev D_check_within_ (P : Program) (w : World) (K : PySem.W.Frag) (mg : Str → Option Value) (base : Heap) := Df P w K mg base 1 "check_within" ["state", "reach"] (spP F_check_within)

abbrev F_heights_from := det (fun a : Dv × Int × Nat × Nat => [slD a.1, .int a.2.1, .int (a.2.2.1 : Int), .int (a.2.2.2 : Int)]) (fun a => a.1.Ok ∧ a.2.2.1 ≤ a.2.2.2 ∧ a.2.2.2 ≤ 24) (fun a => .list ((List.range (a.2.2.2 + 1)).map fun g => .int (reachH a.1 a.2.1 a.2.2.1 g)))
abbrev D_heights_from_ (P : Program) (w : World) (K : PySem.W.Frag) (mg : Str → Option Value) (base : Heap) := Df P w K mg base 1 "heights_from" ["slacks", "height", "hand", "reach"] (spP F_heights_from)

abbrev F_check_round := det (fun ms : List Int => [.list (ms.map PyData.int)]) (fun ms => ms ≠ [] ∧ ms.sum = 0) (fun _ => .none)
abbrev D_check_round_ (P : Program) (w : World) (K : PySem.W.Frag) (mg : Str → Option Value) (base : Heap) := Df P w K mg base 1 "check_round" ["moves"] (spP F_check_round)

abbrev F_pair_place := det (fun a : Dv × Int × Int × Int => [slD a.1, .int a.2.1, .int a.2.2.1, .int a.2.2.2]) (fun a => a.1.Ok) (fun a => pl3 a.1 (min a.2.2.1 a.2.2.2, a.2.1) ((a.2.2.2 - a.2.2.1).natAbs : Int))
abbrev D_pair_place_ (P : Program) (w : World) (K : PySem.W.Frag) (mg : Str → Option Value) (base : Heap) := Df P w K mg base 1 "pair_place" ["slacks", "hand", "one", "other"] (spP F_pair_place)

abbrev F_single_moves := rel (fun v : Dv => [slD v]) Dv.Ok (fun v d => ∃ A B : Nat, A ≤ 100 ∧ B ≤ 100 ∧ (∀ n, slk v.2 n + v.1.p ≤ (A : Int)) ∧ (∀ n, slk v.1 n + v.2.p ≤ (B : Int)) ∧ d = .list ((List.range A).map (fun (k : Nat) => PyData.list [.int (1 + (k : Int))]) ++ (List.range B).map fun (k : Nat) => PyData.list [.int (-(1 + (k : Int)))]))
abbrev D_single_moves_ (P : Program) (w : World) (K : PySem.W.Frag) (mg : Str → Option Value) (base : Heap) := Df P w K mg base 1 "single_moves" ["slacks"] (spP F_single_moves)

abbrev D_trail_back_ (P : Program) (w : World) (K : PySem.W.Frag) (mg : Str → Option Value) (base : Heap) := Df P w K mg base 1 "trail_back" ["before", "place"] spBack

abbrev F_all_bars := det (fun v : Dv => [slD v]) Dv.Ok (fun v => .list (((startsL v).map begun).map barD))
abbrev D_all_bars_ (P : Program) (w : World) (K : PySem.W.Frag) (mg : Str → Option Value) (base : Heap) := Df P w K mg base 1 "all_bars" ["slacks"] (spP F_all_bars)

abbrev F_pool : List Int → Int → (List D → Prop) → Prop := fun ns i k => 0 ≤ i ∧ i < 100 ∧ ∀ pl, Pk 0 pl → k pl
abbrev D__law_jar_ (P : Program) (w : World) (K : PySem.W.Frag) (mg : Str → Option Value) (base : Heap) := Df P w K mg base 1 "_law_jar" ["script", "at"] (spMk K F_pool)

abbrev F__law_pick := drawF
abbrev D__law_pick_ (P : Program) (w : World) (K : PySem.W.Frag) (mg : Str → Option Value) (base : Heap) := Df P w K mg base 1 "_law_pick" ["jar", "bound"] (spO F__law_pick)

abbrev F__law_under := det (fun a : Comb × Int => [a.1.d, .int a.2]) (fun a => a.1.Ok) (fun a => .int (flo a.1 a.2))
abbrev D__law_under_ (P : Program) (w : World) (K : PySem.W.Frag) (mg : Str → Option Value) (base : Heap) := Df P w K mg base 1 "_law_under" ["comb_here", "spot"] (spP F__law_under)

abbrev F__law_shifted := rel (fun a : Comb × Int => [a.1.d, .int a.2]) (fun a => a.1.Ok) (fun a d => ∃ e : Comb, d = e.d ∧ e.Ok ∧ e.p = a.1.p ∧ ∀ y, caught e (y + a.2) = caught a.1 y)
abbrev D__law_shifted_ (P : Program) (w : World) (K : PySem.W.Frag) (mg : Str → Option Value) (base : Heap) := Df P w K mg base 1 "_law_shifted" ["one", "by"] (spP F__law_shifted)

abbrev F__law_times := det (fun a : Comb × Int => [a.1.d, .int a.2]) (fun a => a.1.Ok ∧ 1 ≤ a.2 ∧ a.2 ≤ 3) (fun a => (tmC a.2 a.1).d)
abbrev D__law_times_ (P : Program) (w : World) (K : PySem.W.Frag) (mg : Str → Option Value) (base : Heap) := Df P w K mg base 1 "_law_times" ["one", "many"] (spP F__law_times)

abbrev F_is_whole_pair := det (fun d : D => [d]) (fun _ => True) (fun d => .bool (isWholePair d))
abbrev D_is_whole_pair_ (P : Program) (w : World) (K : PySem.W.Frag) (mg : Str → Option Value) (base : Heap) := Df P w K mg base 2 "is_whole_pair" ["value"] (spP F_is_whole_pair)

abbrev F_check_whole := det (fun a : Int × Str => [.int a.1, .str a.2]) (fun _ => True) (fun _ => .none)
abbrev D_check_whole_ (P : Program) (w : World) (K : PySem.W.Frag) (mg : Str → Option Value) (base : Heap) := Df P w K mg base 2 "check_whole" ["value", "name"] (spP F_check_whole)

abbrev F_is_pitch := det (fun d : D => [d]) (fun _ => True) (fun d => .bool (isPitch d))
abbrev D_is_pitch_ (P : Program) (w : World) (K : PySem.W.Frag) (mg : Str → Option Value) (base : Heap) := Df P w K mg base 2 "is_pitch" ["value"] (spP F_is_pitch)

abbrev F_are_teeth := det (fun c : Comb => [.list (c.ts.map PyData.int), .int c.p]) Comb.Ok (fun _ => .bool true)
abbrev D_are_teeth_ (P : Program) (w : World) (K : PySem.W.Frag) (mg : Str → Option Value) (base : Heap) := Df P w K mg base 2 "are_teeth" ["value", "pitch"] (spP F_are_teeth)

abbrev F_repeated_teeth := det (fun a : List Int × Int × Int => [.list (a.1.map PyData.int), .int a.2.1, .int a.2.2]) (fun a => a.1.length ≤ 24 ∧ 1 ≤ a.2.1 ∧ a.2.1 ≤ 24 ∧ 0 ≤ a.2.2 ∧ a.2.2 ≤ 24) (fun a => .list ((repT a.1 a.2.1 ((a.2.2.toNat + a.2.1.toNat - 1) / a.2.1.toNat)).map PyData.int))
abbrev D_repeated_teeth_ (P : Program) (w : World) (K : PySem.W.Frag) (mg : Str → Option Value) (base : Heap) := Df P w K mg base 2 "repeated_teeth" ["teeth", "part", "pitch"] (spP F_repeated_teeth)

abbrev F_is_held := det (fun a : Dv × Sv => [a.1.d, .int a.2.1, .int a.2.2]) (fun a => a.1.Ok) (fun a => .bool (held a.1 a.2))
abbrev D_is_held_ (P : Program) (w : World) (K : PySem.W.Frag) (mg : Str → Option Value) (base : Heap) := Df P w K mg base 2 "is_held" ["device", "height", "hand"] (spP F_is_held)

abbrev F_after_move := det (fun a : Dv × Sv × Int => [a.1.d, a.2.1.d, .int a.2.2]) (fun a => a.1.Ok) (fun a => (mv a.1 a.2.1 a.2.2).d)
abbrev D_after_move_ (P : Program) (w : World) (K : PySem.W.Frag) (mg : Str → Option Value) (base : Heap) := Df P w K mg base 2 "after_move" ["device", "state", "move"] (spP F_after_move)

abbrev F_check_moves := det (fun ms : List Int => [.list (ms.map PyData.int)]) (fun ms => ms.length ≤ 40 ∧ ∀ m ∈ ms, m ≠ 0) (fun _ => .none)
abbrev D_check_moves_ (P : Program) (w : World) (K : PySem.W.Frag) (mg : Str → Option Value) (base : Heap) := Df P w K mg base 2 "check_moves" ["moves"] (spP F_check_moves)

abbrev F_comb_slacks := det (fun c : Comb => [c.d]) Comb.Ok (fun c => .list ((sl c).map PyData.int))
abbrev D_comb_slacks_ (P : Program) (w : World) (K : PySem.W.Frag) (mg : Str → Option Value) (base : Heap) := Df P w K mg base 2 "comb_slacks" ["comb"] (spP F_comb_slacks)

abbrev F_repeated_heights := rel (fun a : Dv × Sv × List Int => [slD a.1, a.2.1.d, .list (a.2.2.map PyData.int)]) (fun a => a.1.Ok) (fun a d => ∃ n j, Cyc a.1 a.2.2 a.2.1 n j ∧ d = .tuple [.list ((hts a.1 a.2.2 a.2.1 (n + 1)).map PyData.int), .int (j : Int)])
abbrev D_repeated_heights_ (P : Program) (w : World) (K : PySem.W.Frag) (mg : Str → Option Value) (base : Heap) := Df P w K mg base 2 "repeated_heights" ["slacks", "state", "moves"] (spP F_repeated_heights)

abbrev F_far_height := det (fun a : (Dv × Sv × List Int) × Nat × Nat × Nat => [.list ((hts a.1.1 a.1.2.2 a.1.2.1 (a.2.1 + 1)).map PyData.int), .int (a.2.2.1 : Int), .int (a.2.2.2 : Int)]) (fun a => a.1.1.Ok ∧ Cyc a.1.1 a.1.2.2 a.1.2.1 a.2.1 a.2.2.1 ∧ a.2.2.2 < BB ∧ a.1.2.1.1.natAbs < BB ∧ a.1.2.2.length ≤ 40 ∧ ∀ m ∈ a.1.2.2, m.natAbs < BB) (fun a => .int (rp a.1.1 a.1.2.2 a.1.2.1 a.2.2.2).1)
abbrev D_far_height_ (P : Program) (w : World) (K : PySem.W.Frag) (mg : Str → Option Value) (base : Heap) := Df P w K mg base 2 "far_height" ["heights", "ahead", "times"] (spP F_far_height)

abbrev F_heights_behind_more := det (fun a : Dv × List OI => [slD a.1, .list (a.2.map optI)]) (fun a => a.1.Ok ∧ a.2.length ≤ 25) (fun a => .list ((more a.1 a.2).map optI))
abbrev D_heights_behind_more_ (P : Program) (w : World) (K : PySem.W.Frag) (mg : Str → Option Value) (base : Heap) := Df P w K mg base 2 "heights_behind_more" ["slacks", "heights"] (spP F_heights_behind_more)

abbrev F_moved_place := det (fun a : Dv × Sv × Int × List Int => [slD a.1, pl3 a.1 a.2.1 a.2.2.1, .list (a.2.2.2.map PyData.int)]) (fun a => a.1.Ok) (fun a => pl3 a.1 (mvs a.1 a.2.1 a.2.2.2) (gapM a.1 a.2.1 a.2.2.1 a.2.2.2))
abbrev D_moved_place_ (P : Program) (w : World) (K : PySem.W.Frag) (mg : Str → Option Value) (base : Heap) := Df P w K mg base 2 "moved_place" ["slacks", "place", "moves"] (spP F_moved_place)

abbrev F_seen_bars := det (fun a : Dv × List Bar × (Int × Int) => [slD a.1, .list (a.2.1.map barD), Sv.d a.2.2]) (fun a => a.1.Ok ∧ a.2.1.length ≤ 576) (fun a => .list ((seenL a.1 a.2.1 a.2.2).map barD))
abbrev D_seen_bars_ (P : Program) (w : World) (K : PySem.W.Frag) (mg : Str → Option Value) (base : Heap) := Df P w K mg base 2 "seen_bars" ["slacks", "bars", "look"] (spP F_seen_bars)

abbrev F__law_comb := poolF 8000000 (fun t : Int => [.int t]) (fun t => 1 ≤ t ∧ t ≤ 24) (fun _ => 100) (fun t d => ∃ cb : Comb, d = cb.d ∧ cb.Ok ∧ cb.p ≤ t)
abbrev D__law_comb_ (P : Program) (w : World) (K : PySem.W.Frag) (mg : Str → Option Value) (base : Heap) := Df P w K mg base 2 "_law_comb" ["jar", "most"] (spO F__law_comb)

abbrev F__law_stand := poolF 7000000 (fun a : Dv × Int => [a.1.d, .int a.2]) (fun a => a.1.Ok ∧ 1 ≤ a.2 ∧ a.2 ≤ 10 ^ 37) (fun _ => 3) (fun a d => ∃ s : Sv, d = s.d ∧ held a.1 s = true ∧ s.1.natAbs ≤ 10 ^ 38 ∧ s.2.natAbs ≤ 10 ^ 38)
abbrev D__law_stand_ (P : Program) (w : World) (K : PySem.W.Frag) (mg : Str → Option Value) (base : Heap) := Df P w K mg base 2 "_law_stand" ["jar", "pair", "far"] (spO F__law_stand)

abbrev F__law_steps := poolF 7000000 (fun a : Int × Int => [.int a.1, .int a.2]) (fun a => 1 ≤ a.1 ∧ a.1 ≤ 40 ∧ 1 ≤ a.2 ∧ a.2 ≤ 10 ^ 37) (fun _ => 200) (fun a d => ∃ ms : List Int, d = .list (ms.map PyData.int) ∧ (ms.length : Int) ≤ a.1 ∧ ∀ m ∈ ms, m ≠ 0 ∧ m.natAbs ≤ 10 ^ 38)
abbrev D__law_steps_ (P : Program) (w : World) (K : PySem.W.Frag) (mg : Str → Option Value) (base : Heap) := Df P w K mg base 2 "_law_steps" ["jar", "many", "far"] (spO F__law_steps)

abbrev F__law_round := poolF 7000000 (fun a : Int × Int => [.int a.1, .int a.2]) (fun a => 1 ≤ a.1 ∧ a.1 ≤ 39 ∧ 1 ≤ a.2 ∧ a.2 ≤ 10 ^ 38) (fun _ => 200) (fun a d => ∃ ms : List Int, d = .list (ms.map PyData.int) ∧ ms ≠ [] ∧ ms.sum = 0 ∧ (ms.length : Int) ≤ a.1 + 2 ∧ ∀ m ∈ ms, m ≠ 0 ∧ m.natAbs ≤ 10 ^ 40)
abbrev D__law_round_ (P : Program) (w : World) (K : PySem.W.Frag) (mg : Str → Option Value) (base : Heap) := Df P w K mg base 2 "_law_round" ["jar", "many", "far"] (spO F__law_round)

abbrev F_check_least := det (fun a : Int × Int × Str => [.int a.1, .int a.2.1, .str a.2.2]) (fun a => a.2.1 ≤ a.1) (fun _ => .none)
abbrev D_check_least_ (P : Program) (w : World) (K : PySem.W.Frag) (mg : Str → Option Value) (base : Heap) := Df P w K mg base 3 "check_least" ["value", "least", "name"] (spP F_check_least)

abbrev F_check_comb := det (fun c : Comb => [c.d]) Comb.Ok (fun _ => .none)
abbrev D_check_comb_ (P : Program) (w : World) (K : PySem.W.Frag) (mg : Str → Option Value) (base : Heap) := Df P w K mg base 3 "check_comb" ["comb"] (spP F_check_comb)

abbrev F_is_comb := det (fun c : Comb => [c.d]) Comb.Ok (fun _ => .bool true)
abbrev D_is_comb_ (P : Program) (w : World) (K : PySem.W.Frag) (mg : Str → Option Value) (base : Heap) := Df P w K mg base 3 "is_comb" ["value"] (spP F_is_comb)

abbrev F_fits_device := det (fun a : Dv × Sv => [a.1.d, a.2.d]) (fun a => a.1.Ok) (fun a => .bool (held a.1 a.2))
abbrev D_fits_device_ (P : Program) (w : World) (K : PySem.W.Frag) (mg : Str → Option Value) (base : Heap) := Df P w K mg base 3 "fits_device" ["device", "value"] (spP F_fits_device)

abbrev F_device_slacks := det (fun v : Dv => [v.d]) Dv.Ok (fun v => slD v)
abbrev D_device_slacks_ (P : Program) (w : World) (K : PySem.W.Frag) (mg : Str → Option Value) (base : Heap) := Df P w K mg base 3 "device_slacks" ["device"] (spP F_device_slacks)

abbrev F_slack_mean := rel (fun a : Dv × Int × List Int => [slD a.1, .int a.2.1, .list (a.2.2.map PyData.int)]) (fun a => a.1.Ok) (fun a d => ∃ t b, Mean a.1 a.2.2 a.2.1 t b ∧ d = .tuple [.int t, .int b])
abbrev D_slack_mean_ (P : Program) (w : World) (K : PySem.W.Frag) (mg : Str → Option Value) (base : Heap) := Df P w K mg base 3 "slack_mean" ["slacks", "hand", "moves"] (spP F_slack_mean)

abbrev F_heights_at := det (fun a : Dv × Int => [a.1.d, .int a.2]) (fun a => a.1.Ok) (fun a => .list ((heldL a.1 a.2).map PyData.int))
abbrev D_heights_at_ (P : Program) (w : World) (K : PySem.W.Frag) (mg : Str → Option Value) (base : Heap) := Df P w K mg base 3 "heights_at" ["device", "hand"] (spP F_heights_at)

abbrev F_check_height := det (fun a : Dv × Sv × Str => [a.1.d, .int a.2.1.2, .int a.2.1.1, .str a.2.2]) (fun a => a.1.Ok ∧ held a.1 a.2.1 = true) (fun _ => .none)
abbrev D_check_height_ (P : Program) (w : World) (K : PySem.W.Frag) (mg : Str → Option Value) (base : Heap) := Df P w K mg base 3 "check_height" ["device", "hand", "height", "name"] (spP F_check_height)

abbrev F_joining_trail := rel (fun a : Dv × Sv × Int => [slD a.1, pl3 a.1 a.2.1 a.2.2]) (fun a => (a.1.Ok ∧ a.1.1.p ≤ 8 ∧ a.1.2.p ≤ 8) ∧ 0 ≤ a.2.2 ∧ a.2.2 < lcmV a.1) (fun a d => ∃ o, JoinM a.1 a.2.1 a.2.2 o ∧ d = oL o)
abbrev D_joining_trail_ (P : Program) (w : World) (K : PySem.W.Frag) (mg : Str → Option Value) (base : Heap) := Df P w K mg base 3 "joining_trail" ["slacks", "first"] (spP F_joining_trail)

abbrev F_check_looks := det (fun ns : List (Int × Int) => [.list (ns.map Sv.d)]) (fun ns => ns.length ≤ 12 ∧ ∀ q ∈ ns, q.1 ≠ 0) (fun _ => .none)
abbrev D_check_looks_ (P : Program) (w : World) (K : PySem.W.Frag) (mg : Str → Option Value) (base : Heap) := Df P w K mg base 3 "check_looks" ["looks"] (spP F_check_looks)

abbrev F__law_pair := poolF 7000000 (fun t : Int => [.int t]) (fun t => 1 ≤ t ∧ t ≤ 24) (fun _ => 300) (fun t d => ∃ v : Dv, d = v.d ∧ v.Ok ∧ v.1.p ≤ t ∧ v.2.p ≤ t)
abbrev D__law_pair_ (P : Program) (w : World) (K : PySem.W.Frag) (mg : Str → Option Value) (base : Heap) := Df P w K mg base 3 "_law_pair" ["jar", "most"] (spO F__law_pair)

abbrev F_check_between := det (fun a : Int × Int × Int × Str => [.int a.1, .int a.2.1, .int a.2.2.1, .str a.2.2.2]) (fun a => a.2.1 ≤ a.1 ∧ a.1 ≤ a.2.2.1) (fun _ => .none)
abbrev D_check_between_ (P : Program) (w : World) (K : PySem.W.Frag) (mg : Str → Option Value) (base : Heap) := Df P w K mg base 4 "check_between" ["value", "least", "greatest", "name"] (spP F_check_between)

abbrev F_check_device := det (fun v : Dv => [v.d]) Dv.Ok (fun _ => .none)
abbrev D_check_device_ (P : Program) (w : World) (K : PySem.W.Frag) (mg : Str → Option Value) (base : Heap) := Df P w K mg base 4 "check_device" ["device"] (spP F_check_device)

abbrev D_plain_comb_ (P : Program) (w : World) (K : PySem.W.Frag) (mg : Str → Option Value) (base : Heap) := Df P w K mg base 4 "plain_comb" ["comb"] (spW plainF)

abbrev F_check_state := det (fun a : Dv × Sv => [a.1.d, a.2.d]) (fun a => a.1.Ok ∧ held a.1 a.2 = true) (fun a => .none)
abbrev D_check_state_ (P : Program) (w : World) (K : PySem.W.Frag) (mg : Str → Option Value) (base : Heap) := Df P w K mg base 4 "check_state" ["device", "state"] (spP F_check_state)

def behindF : List D → (Hp → V → Prop) → Prop := fun ds k => ∃ a : Dv × Int × List Int, ds = [a.1.d, .int a.2.1, .list (a.2.2.map PyData.int)] ∧ a.1.Ok ∧ ∀ p, k (one p (.dK (vsI (tbF (fun x => (mvs a.1 (x, a.2.1) a.2.2).1) (heldL a.1 a.2.1))))) (.ref p)
theorem behind_mono : ∀ xs k k', behindF xs k → (∀ P v, k P v → k' P v) → behindF xs k' := fun _ _ _ ⟨a, e, o, h⟩ g => ⟨a, e, o, fun p => g _ _ (h p)⟩
abbrev D_heights_behind_ (P : Program) (w : World) (K : PySem.W.Frag) (mg : Str → Option Value) (base : Heap) := Df P w K mg base 4 "heights_behind" ["device", "hand", "moves"] (spW behindF)

abbrev F_pump_mean := rel (fun a : Dv × Int × Int => [slD a.1, .int a.2.1, .int a.2.2]) (fun a => a.1.Ok) (fun a d => ∃ t b, Mean a.1 [a.2.2, -a.2.2] a.2.1 t b ∧ d = .tuple [.int t, .int b])
abbrev D_pump_mean_ (P : Program) (w : World) (K : PySem.W.Frag) (mg : Str → Option Value) (base : Heap) := Df P w K mg base 4 "pump_mean" ["slacks", "hand", "span"] (spP F_pump_mean)

abbrev F_check_moving := det (fun a : Dv × Sv × List Int => [a.1.d, a.2.1.d, .list (a.2.2.map PyData.int)]) (fun a => a.1.Ok ∧ held a.1 a.2.1 = true ∧ a.2.2.length ≤ 40 ∧ ∀ m ∈ a.2.2, m ≠ 0) (fun _ => .none)
abbrev D_check_moving_ (P : Program) (w : World) (K : PySem.W.Frag) (mg : Str → Option Value) (base : Heap) := Df P w K mg base 5 "check_moving" ["device", "state", "moves"] (spP F_check_moving)

abbrev F_check_begun := det (fun a : Dv × Sv => [a.1.d, a.2.d]) (fun a => a.1.Ok ∧ held a.1 a.2 = true) (fun _ => .none)
abbrev D_check_begun_ (P : Program) (w : World) (K : PySem.W.Frag) (mg : Str → Option Value) (base : Heap) := Df P w K mg base 5 "check_begun" ["device", "state"] (spP F_check_begun)

abbrev D_shifted_comb_ (P : Program) (w : World) (K : PySem.W.Frag) (mg : Str → Option Value) (base : Heap) := Df P w K mg base 5 "shifted_comb" ["comb", "distance"] (spW shiftF)

abbrev F_check_reach := det (fun a : Dv × Sv × Int => [a.1.d, a.2.1.d, .int a.2.2]) (fun a => a.1.Ok ∧ held a.1 a.2.1 = true ∧ 1 ≤ a.2.2 ∧ a.2.2 ≤ 24) (fun _ => .none)
abbrev D_check_reach_ (P : Program) (w : World) (K : PySem.W.Frag) (mg : Str → Option Value) (base : Heap) := Df P w K mg base 5 "check_reach" ["device", "state", "reach"] (spP F_check_reach)

abbrev F_check_hand := det (fun a : Dv × Int => [a.1.d, .int a.2]) (fun a => a.1.Ok) (fun _ => .none)
abbrev D_check_hand_ (P : Program) (w : World) (K : PySem.W.Frag) (mg : Str → Option Value) (base : Heap) := Df P w K mg base 5 "check_hand" ["device", "hand"] (spP F_check_hand)

abbrev F_check_small := det (fun v : Dv => [v.d]) (fun v => v.Ok ∧ v.1.p ≤ 8 ∧ v.2.p ≤ 8) (fun _ => .none)
abbrev D_check_small_ (P : Program) (w : World) (K : PySem.W.Frag) (mg : Str → Option Value) (base : Heap) := Df P w K mg base 5 "check_small" ["device"] (spP F_check_small)

abbrev F_check_told := det (fun a : Dv × List (Int × Int) => [a.1.d, .list (a.2.map Sv.d)]) (fun a => a.1.Ok ∧ a.2.length ≤ 12 ∧ ∀ q ∈ a.2, q.1 ≠ 0) (fun _ => .none)
abbrev D_check_told_ (P : Program) (w : World) (K : PySem.W.Frag) (mg : Str → Option Value) (base : Heap) := Df P w K mg base 5 "check_told" ["device", "looks"] (spP F_check_told)

abbrev F_moved_state := det (fun a : Dv × Sv × List Int => [a.1.d, a.2.1.d, .list (a.2.2.map PyData.int)]) (fun a => a.1.Ok ∧ held a.1 a.2.1 = true ∧ a.2.2.length ≤ 40 ∧ ∀ m ∈ a.2.2, m ≠ 0) (fun a => (mvs a.1 a.2.1 a.2.2).d)
abbrev D_moved_state_ (P : Program) (w : World) (K : PySem.W.Frag) (mg : Str → Option Value) (base : Heap) := Df P w K mg base 6 "moved_state" ["device", "state", "moves"] (spP F_moved_state)

abbrev F_far_state := det (fun a : (Dv × Sv × List Int) × Nat => [a.1.1.d, a.1.2.1.d, .list (a.1.2.2.map PyData.int), .int (a.2 : Int)]) (fun a => a.1.1.Ok ∧ held a.1.1 a.1.2.1 = true ∧ a.1.2.2.length ≤ 40 ∧ (∀ m ∈ a.1.2.2, m ≠ 0 ∧ m.natAbs < BB) ∧ a.1.2.1.1.natAbs < BB ∧ a.2 < BB) (fun a => (rp a.1.1 a.1.2.2 a.1.2.1 a.2).d)
abbrev D_far_state_ (P : Program) (w : World) (K : PySem.W.Frag) (mg : Str → Option Value) (base : Heap) := Df P w K mg base 6 "far_state" ["device", "state", "moves", "times"] (spP F_far_state)

abbrev F_first_time := rel (fun a : (Dv × Sv × List Int) × Int => [a.1.1.d, a.1.2.1.d, .list (a.1.2.2.map PyData.int), .int a.2]) (fun a => a.1.1.Ok ∧ held a.1.1 a.1.2.1 = true ∧ a.1.2.2.length ≤ 40 ∧ (∀ m ∈ a.1.2.2, m ≠ 0 ∧ m.natAbs ≤ 10 ^ 41) ∧ a.1.2.1.1.natAbs ≤ 10 ^ 41 ∧ a.2.natAbs ≤ 10 ^ 46) (fun a d => ∃ o, Fst a.1.1 a.1.2.2 a.1.2.1 a.2 o ∧ d = oD o ∧ ∀ k, o = some k → k ≤ 10 ^ 50)
abbrev D_first_time_ (P : Program) (w : World) (K : PySem.W.Frag) (mg : Str → Option Value) (base : Heap) := Df P w K mg base 6 "first_time" ["device", "state", "moves", "height"] (spP F_first_time)

abbrev F_round_cycle := rel (fun a : Dv × Sv × List Int => [a.1.d, a.2.1.d, .list (a.2.2.map PyData.int)]) (fun a => a.1.Ok ∧ held a.1 a.2.1 = true ∧ a.2.2.length ≤ 40 ∧ ∀ m ∈ a.2.2, m ≠ 0) (fun a d => ∃ n j, Cyc a.1 a.2.2 a.2.1 n j ∧ d = .tuple [.int (j : Int), .int ((n : Int) - (j : Int)), .int ((rp a.1 a.2.2 a.2.1 n).1 - (rp a.1 a.2.2 a.2.1 j).1)])
abbrev D_round_cycle_ (P : Program) (w : World) (K : PySem.W.Frag) (mg : Str → Option Value) (base : Heap) := Df P w K mg base 6 "round_cycle" ["device", "state", "moves"] (spP F_round_cycle)

abbrev F_check_both := det (fun a : (Dv × Sv) × Dv × Sv => [a.1.1.d, a.1.2.d, a.2.1.d, a.2.2.d]) (fun a => (a.1.1.Ok ∧ held a.1.1 a.1.2 = true) ∧ a.2.1.Ok ∧ held a.2.1 a.2.2 = true) (fun _ => .none)
abbrev D_check_both_ (P : Program) (w : World) (K : PySem.W.Frag) (mg : Str → Option Value) (base : Heap) := Df P w K mg base 6 "check_both" ["device", "state", "second", "start"] (spP F_check_both)

abbrev D_shifted_device_ (P : Program) (w : World) (K : PySem.W.Frag) (mg : Str → Option Value) (base : Heap) := Df P w K mg base 6 "shifted_device" ["device", "state"] (spW (devF fun v _ => v.Ok))

abbrev F_alike_state := rel (fun a : Dv × Sv => [a.1.d, a.2.d]) (fun a => a.1.Ok ∧ held a.1 a.2 = true) (fun a d => ∃ P Q : Int, LeastP a.1.1 P ∧ LeastP a.1.2 Q ∧ d = Sv.d (a.2.1 % P, (a.2.1 % P - a.2.1 + a.2.2) % Q))
abbrev D_alike_state_ (P : Program) (w : World) (K : PySem.W.Frag) (mg : Str → Option Value) (base : Heap) := Df P w K mg base 6 "alike_state" ["device", "state"] (spP F_alike_state)

abbrev F_best_heights := det (fun a : Dv × Sv × Nat × Nat => [a.1.d, a.2.1.d, .int (a.2.2.1 : Int), .int (a.2.2.2 : Int)]) (fun a => a.1.Ok ∧ held a.1 a.2.1 = true ∧ 1 ≤ a.2.2.1 ∧ a.2.2.1 ≤ 24 ∧ a.2.2.2 ≤ 200 ∧ 0 ≤ a.2.1.2 ∧ a.2.1.2 ≤ (a.2.2.1 : Int)) (fun a => .list ((itT a.1 (PD.startT a.2.2.1 a.2.1.2.toNat a.2.1.1) a.2.2.2).map optI))
abbrev D_best_heights_ (P : Program) (w : World) (K : PySem.W.Frag) (mg : Str → Option Value) (base : Heap) := Df P w K mg base 6 "best_heights" ["device", "state", "reach", "count"] (spP F_best_heights)

abbrev F_check_rounds := det (fun a : Dv × Int × List Int => [a.1.d, .int a.2.1, .list (a.2.2.map PyData.int)]) (fun a => a.1.Ok ∧ a.2.2.length ≤ 40 ∧ (∀ m ∈ a.2.2, m ≠ 0) ∧ a.2.2 ≠ [] ∧ a.2.2.sum = 0) (fun _ => .none)
abbrev D_check_rounds_ (P : Program) (w : World) (K : PySem.W.Frag) (mg : Str → Option Value) (base : Heap) := Df P w K mg base 6 "check_rounds" ["device", "hand", "moves"] (spP F_check_rounds)

abbrev F_held_heights := det (fun a : Dv × Int => [a.1.d, .int a.2]) (fun a => a.1.Ok) (fun a => .list ((heldL a.1 a.2).map PyData.int))
abbrev D_held_heights_ (P : Program) (w : World) (K : PySem.W.Frag) (mg : Str → Option Value) (base : Heap) := Df P w K mg base 6 "held_heights" ["device", "hand"] (spP F_held_heights)

abbrev F_check_bars := det (fun a : Dv × Int × Int × Int => [a.1.d, .int a.2.1, .int a.2.2.1, .int a.2.2.2]) (fun a => (a.1.Ok ∧ a.1.1.p ≤ 8 ∧ a.1.2.p ≤ 8) ∧ held a.1 (a.2.2.1, a.2.1) = true ∧ held a.1 (a.2.2.2, a.2.1) = true) (fun _ => .none)
abbrev D_check_bars_ (P : Program) (w : World) (K : PySem.W.Frag) (mg : Str → Option Value) (base : Heap) := Df P w K mg base 6 "check_bars" ["device", "hand", "one", "other"] (spP F_check_bars)

abbrev F_span_rise := rel (fun a : Dv × Int × Int => [a.1.d, .int a.2.1, .int a.2.2]) (fun a => a.1.Ok ∧ 1 ≤ a.2.2) (fun a d => ∃ t b, Mean a.1 [a.2.2, -a.2.2] a.2.1 t b ∧ d = .tuple [.int t, .int b])
abbrev D_span_rise_ (P : Program) (w : World) (K : PySem.W.Frag) (mg : Str → Option Value) (base : Heap) := Df P w K mg base 6 "span_rise" ["device", "hand", "span"] (spP F_span_rise)

abbrev F_span_rows := newL (fun a : Dv × Int => [a.1.d, .int a.2]) (fun a => a.1.Ok) (fun a => (rowsF a.1 a.2 (spanN a.1)).1.map rowD)
abbrev D_span_rows_ (P : Program) (w : World) (K : PySem.W.Frag) (mg : Str → Option Value) (base : Heap) := Df P w K mg base 6 "span_rows" ["device", "hand"] (spN F_span_rows)

abbrev F_clash_index := rel (fun a : Dv × List (Int × Int) => [a.1.d, .list (a.2.map Sv.d)]) (fun a => a.1.Ok ∧ a.2.length ≤ 12 ∧ ∀ q ∈ a.2, q.1 ≠ 0) (fun a d => (d = .none ∧ ∀ i, i < a.2.length → fitL a.1 (a.2.take (i + 1)) ≠ []) ∨ ∃ i : Nat, i < a.2.length ∧ d = .int (i : Int) ∧ fitL a.1 (a.2.take (i + 1)) = [] ∧ ∀ j, j < i → fitL a.1 (a.2.take (j + 1)) ≠ [])
abbrev D_clash_index_ (P : Program) (w : World) (K : PySem.W.Frag) (mg : Str → Option Value) (base : Heap) := Df P w K mg base 6 "clash_index" ["device", "looks"] (spP F_clash_index)

abbrev F_are_alike := rel (fun a : (Dv × Sv) × Dv × Sv => [a.1.1.d, a.1.2.d, a.2.1.d, a.2.2.d]) (fun a => (a.1.1.Ok ∧ held a.1.1 a.1.2 = true) ∧ a.2.1.Ok ∧ held a.2.1 a.2.2 = true) (fun a d => ∃ b : Bool, d = .bool b ∧ (b = true ↔ AlkS a.1.1 a.1.2 a.2.1 a.2.2))
abbrev D_are_alike_ (P : Program) (w : World) (K : PySem.W.Frag) (mg : Str → Option Value) (base : Heap) := Df P w K mg base 7 "are_alike" ["device", "state", "second", "start"] (spP F_are_alike)

abbrev F_best_height := rel (fun a : Dv × Sv × Nat × Nat => [a.1.d, a.2.1.d, .int (a.2.2.1 : Int), .int (a.2.2.2 : Int)]) (fun a => a.1.Ok ∧ held a.1 a.2.1 = true ∧ 1 ≤ a.2.2.1 ∧ a.2.2.1 ≤ 24 ∧ a.2.2.2 ≤ 200 ∧ 0 ≤ a.2.1.2 ∧ a.2.1.2 ≤ (a.2.2.1 : Int)) (fun a d => ∃ m : Int, d = .int m ∧ m ∈ (itT a.1 (PD.startT a.2.2.1 a.2.1.2.toNat a.2.1.1) a.2.2.2).filterMap id ∧ ∀ y ∈ (itT a.1 (PD.startT a.2.2.1 a.2.1.2.toNat a.2.1.1) a.2.2.2).filterMap id, y ≤ m)
abbrev D_best_height_ (P : Program) (w : World) (K : PySem.W.Frag) (mg : Str → Option Value) (base : Heap) := Df P w K mg base 7 "best_height" ["device", "state", "reach", "count"] (spP F_best_height)

abbrev F_mean_rise := rel (fun a : Dv × Int × List Int => [a.1.d, .int a.2.1, .list (a.2.2.map PyData.int)]) (fun a => a.1.Ok ∧ a.2.2.length ≤ 40 ∧ (∀ m ∈ a.2.2, m ≠ 0) ∧ a.2.2 ≠ [] ∧ a.2.2.sum = 0) (fun a d => ∃ t b, Mean a.1 a.2.2 a.2.1 t b ∧ d = .tuple [.int t, .int b])
abbrev D_mean_rise_ (P : Program) (w : World) (K : PySem.W.Frag) (mg : Str → Option Value) (base : Heap) := Df P w K mg base 7 "mean_rise" ["device", "hand", "moves"] (spP F_mean_rise)

abbrev F_stuck_heights := det (fun a : Dv × Int × List Int => [a.1.d, .int a.2.1, .list (a.2.2.map PyData.int)]) (fun a => a.1.Ok ∧ a.2.2.length ≤ 40 ∧ (∀ m ∈ a.2.2, m ≠ 0) ∧ a.2.2 ≠ [] ∧ a.2.2.sum = 0) (fun a => .list ((stuckL a.1 a.2.1 a.2.2).map PyData.int))
abbrev D_stuck_heights_ (P : Program) (w : World) (K : PySem.W.Frag) (mg : Str → Option Value) (base : Heap) := Df P w K mg base 7 "stuck_heights" ["device", "hand", "moves"] (spP F_stuck_heights)

abbrev F_joining_moves := rel (fun a : Dv × Int × Int × Int => [a.1.d, .int a.2.1, .int a.2.2.1, .int a.2.2.2]) (fun a => (a.1.Ok ∧ a.1.1.p ≤ 8 ∧ a.1.2.p ≤ 8) ∧ held a.1 (a.2.2.1, a.2.1) = true ∧ held a.1 (a.2.2.2, a.2.1) = true) (fun a d => ∃ o, JoinM a.1 (min a.2.2.1 a.2.2.2, a.2.1) ((a.2.2.2 - a.2.2.1).natAbs : Int) o ∧ d = oL o)
abbrev D_joining_moves_ (P : Program) (w : World) (K : PySem.W.Frag) (mg : Str → Option Value) (base : Heap) := Df P w K mg base 7 "joining_moves" ["device", "hand", "one", "other"] (spP F_joining_moves)

abbrev F_joining_count := rel (fun a : Dv × Int × Int × Int => [a.1.d, .int a.2.1, .int a.2.2.1, .int a.2.2.2]) (fun a => (a.1.Ok ∧ a.1.1.p ≤ 8 ∧ a.1.2.p ≤ 8) ∧ held a.1 (a.2.2.1, a.2.1) = true ∧ held a.1 (a.2.2.2, a.2.1) = true) (fun a d => ∃ o, JoinM a.1 (min a.2.2.1 a.2.2.2, a.2.1) ((a.2.2.2 - a.2.2.1).natAbs : Int) o ∧ d = oD (o.map List.length))
abbrev D_joining_count_ (P : Program) (w : World) (K : PySem.W.Frag) (mg : Str → Option Value) (base : Heap) := Df P w K mg base 8 "joining_count" ["device", "hand", "one", "other"] (spP F_joining_count)

abbrev F__law_shift_right := poolF 6000000 (fun a : Dv × Sv × List Int => [a.1.d, a.2.1.d, .list (a.2.2.map PyData.int)]) (fun a => a.1.Ok ∧ held a.1 a.2.1 = true ∧ a.2.1.1.natAbs ≤ 10 ^ 38 ∧ a.2.1.2.natAbs ≤ 10 ^ 38 ∧ a.2.2.length ≤ 12 ∧ ∀ m ∈ a.2.2, m ≠ 0 ∧ m.natAbs ≤ 10 ^ 38) (fun _ => 300) (fun _ d => d = .bool true)
abbrev D__law_shift_right_ (P : Program) (w : World) (K : PySem.W.Frag) (mg : Str → Option Value) (base : Heap) := Df P w K mg base 8 "_law_shift_right" ["jar", "pair", "stand", "steps"] (spO F__law_shift_right)

abbrev F__law_times_right := poolF 6000000 (fun a : Dv × Sv × List Int × Nat => [a.1.d, a.2.1.d, .list (a.2.2.1.map PyData.int), .int (a.2.2.2 : Int)]) (fun a => a.1.Ok ∧ held a.1 a.2.1 = true ∧ a.2.1.1.natAbs ≤ 10 ^ 38 ∧ a.2.1.2.natAbs ≤ 10 ^ 38 ∧ a.2.2.1.length ≤ 12 ∧ (∀ m ∈ a.2.2.1, m ≠ 0 ∧ m.natAbs ≤ 10 ^ 38) ∧ 1 ≤ a.2.2.2 ∧ a.2.2.2 ≤ 3 ∧ (a.2.2.2 : Int) * a.1.1.p ≤ 24 ∧ (a.2.2.2 : Int) * a.1.2.p ≤ 24) (fun _ => 300) (fun _ d => d = .bool true)
abbrev D__law_times_right_ (P : Program) (w : World) (K : PySem.W.Frag) (mg : Str → Option Value) (base : Heap) := Df P w K mg base 9 "_law_times_right" ["jar", "pair", "stand", "steps", "many"] (spO F__law_times_right)

local macro_rules | `(tactic| walk_at "nz") => `(tactic| try dsimp only [nox_K, blk_K, slotsD, slotsO, wipeD, List.map, List.length_cons, List.length_nil, Nat.reduceAdd, Nat.reduceSub, List.replicate_succ, List.replicate_zero, List.cons_append, List.nil_append, List.set_cons_zero, List.set_cons_succ, isD, isI, isB, isS, rtD, rtN, rtO])
local macro_rules | `(tactic| walk_at "pd") => `(tactic| first
  | ((with_reducible refine ws_seq ?_); walk_at "nz")
  | ((with_reducible refine ws_ret ?_); walk_at "nz")
  | ((with_reducible refine ws_if ?_); walk_at "nz")
  | (with_reducible refine ws_next ?_)
  | ((with_reducible refine ws_app (xs := ?wvar) ?hvar ?_); (case hvar => rfl))
  | (with_reducible refine ws_drop ?_)
  | ((with_reducible refine ws_unpN ?hunp ?_); (case hunp => rfl))
  | ((with_reducible refine ws_set ?_); walk_at "nz")
  | (with_reducible refine wt_and ?_)
  | (with_reducible refine wt_or ?_)
  | (with_reducible refine wt_not ?_)
  | (with_reducible refine wt_T ?_)
  | (with_reducible refine wt_B ?_)
  | (with_reducible refine wt_tru ?_)
  | (with_reducible refine wt_yes ?_)
  | ((with_reducible refine we_isi ?hisi ?_); (case hisi => decide))
  | (with_reducible refine we_andV ?_)
  | (with_reducible refine we_orV ?_)
  | (with_reducible refine we_notV ?_)
  | (with_reducible refine we_if ?_)
  | ((with_reducible refine we_var (w := ?wvar) ?hvar ?_); (case hvar => rfl))
  | (with_reducible refine we_int ?_)
  | (with_reducible refine we_bl ?_)
  | (with_reducible refine we_non ?_)
  | (with_reducible refine we_str ?_)
  | (with_reducible refine we_neg ?_)
  | ((with_reducible refine we_ixS (a := ?sa) (ns := ?sns) ?hS ?hvar ?_); (case hS => assumption); (case hvar => rfl))
  | ((with_reducible refine we_lenS (a := ?sa) (ns := ?sns) ?hS ?hvar ?_); (case hS => assumption); (case hvar => rfl))
  | ((with_reducible refine we_ixP (p := ?pp) ?hvar ?hpp ?_); (case hvar => rfl); (case hpp => assumption))
  | ((with_reducible refine ws_setP (p := ?pp) ?hvar ?hpp ?_); (case hvar => rfl); (case hpp => assumption))
  | ((with_reducible refine we_opV (xs := ?wvar) ?hvar ?_); (case hvar => rfl))
  | (with_reducible refine we_op ?_)
  | ((with_reducible refine we_lenO (xs := ?wvar) ?hvar ?_); (case hvar => rfl))
  | (with_reducible refine we_cb ?_)
  | (with_reducible refine wa_cons ?_)
  | (with_reducible refine wa_nil ?_)
  | (with_reducible refine we_tup ?_)
  | (with_reducible refine cb_lenT ?_)
  | (with_reducible refine cb_lenL ?_)
  | (with_reducible refine cb_max2 ?_)
  | (with_reducible refine cb_min2 ?_)
  | (with_reducible refine cb_abs ?_)
  | (with_reducible refine cb_int ?_)
  | (with_reducible refine cb_intB ?_)
  | (with_reducible refine os_eqI ?_)
  | (with_reducible refine os_neI ?_)
  | (with_reducible refine os_addI ?_)
  | (with_reducible refine os_sub ?_)
  | (with_reducible refine os_lt ?_)
  | (with_reducible refine os_le ?_)
  | (with_reducible refine os_gt ?_)
  | (with_reducible refine os_ge ?_)
  | (with_reducible refine os_t0 ?_)
  | (with_reducible refine os_t1 ?_)
  | (with_reducible refine os_l0 ?_)
  | (with_reducible refine os_l1 ?_)
  | ((with_reducible refine iteV ?iteh ?_); (case iteh => rfl))
  | ((with_reducible refine iteN ?iteh ?_); (case iteh => rfl))
  | ((with_reducible refine And.intro ?hand ?_); (case hand => first | rfl | decide | (simp only [List.length_cons, List.length_nil]; decide)))
  | ((with_reducible refine ⟨?wx, ?wy, ?hex, ?_⟩); (case hex => rfl)))
local macro_rules | `(tactic| walk_at "go") => `(tactic| repeat walk_at "pd")

section
variable {P : Program} {w : World} {K : PySem.W.Frag} {mg : Str → Option Value} {base : Heap}
theorem ok_is_whole (T : Tx K mg) {f : Addr} {fd : FuncData} (F : Here K mg "is_whole" s_is_whole ["value"] f fd) : D_is_whole_ P w K mg base := by
  refine F.df (fgP F.1 sc_is_whole (fun ds k h => ?_) fun cdv B fr s H E hg hr => ⟨_, ((pss_one (ps_ret (pe_and (pe_callB (r := rIsi K) call_isi (by rfl) T.n_isinstance (by decide +kernel) (pa_cons (pv 0) (pa_cons (pe_bltn (v := .ty "int") (u := .type "int") (by rfl) T.n_int (by decide +kernel) rfl) pa_nil))) (pe_one (pe_not (pe_callB (r := rIsi K) call_isi (by rfl) T.n_isinstance (by decide +kernel) (pa_cons (pv 0) (pa_cons (pe_bltn (v := .ty "bool") (u := .type "bool") (by rfl) T.n_bool (by decide +kernel) rfl) pa_nil))))))))), ?_⟩)
  · obtain ⟨a, rfl, _⟩ := h; rfl
  · intro c ds k hc h
    obtain ⟨d, rfl, _, h⟩ := h
    cases d <;> (walk_at "go"; first | exact h | (refine iteT ?_; walk_at "go"; exact h) | (refine iteF ?_; walk_at "go"; exact h))

theorem ok_is_pair (T : Tx K mg) {f : Addr} {fd : FuncData} (F : Here K mg "is_pair" s_is_pair ["value"] f fd) : D_is_pair_ P w K mg base := by
  refine F.df (fgP F.1 sc_is_pair (fun ds k h => ?_) fun cdv B fr s H E hg hr => ⟨_, ((pss_one (ps_ret (pe_and (pe_callB (r := rIsi K) call_isi (by rfl) T.n_isinstance (by decide +kernel) (pa_cons (pv 0) (pa_cons (pe_bltn (v := .ty "tuple") (u := .type "tuple") (by rfl) T.n_tuple (by decide +kernel) rfl) pa_nil))) (pe_one (pe_cmpR (r := rEqU K) (op_eqU hr.units) (pe_callB (r := rLenQ K) call_len_seq (by rfl) T.n_len (by decide +kernel) (pa_cons (pv 0) pa_nil)) pe_int (nomark _))))))), ?_⟩)
  · obtain ⟨a, rfl, _⟩ := h; rfl
  · intro c ds k hc h
    obtain ⟨d, rfl, _, h⟩ := h
    cases d with
    | tuple xs =>
      walk_at "go"
      match xs, h with
      | [], h => exact h
      | [_], h => exact h
      | [_, _], h => exact h
      | a :: b :: c :: r, h =>
        have e : decide (((a :: b :: c :: r).length : Int) = 2) = false := decide_eq_false (by simp only [List.length_cons]; omega)
        show k (.bool (decide (((a :: b :: c :: r).length : Int) = 2)))
        rw [e]
        exact h
    | _ => walk_at "go"; exact h

theorem ok_catches (T : Tx K mg) {f : Addr} {fd : FuncData} (F : Here K mg "catches" s_catches ["comb", "number"] f fd) : D_catches_ P w K mg base := by
  refine F.df (fgP F.1 sc_catches (fun ds k h => ?_) fun cdv B fr s H E hg hr => ⟨_, ((pss_cons (ps_asg (pv 0) (pg_tup (n := 2) rfl (pgs_cons (pg_name (i := 2) sc_catches.nd rfl (.inl rfl)) (pgs_cons (pg_name (i := 3) sc_catches.nd rfl (.inl rfl)) pgs_nil))))
      (pss_one (ps_ret (pe_cmpR (r := rIn K false) op_in_seq (pe_op op_mod (pv 1) (pv 2)) (pv 3) (by rfl)))))), ?_⟩)
  · obtain ⟨a, rfl, _⟩ := h; rfl
  · intro c ds k hc h
    obtain ⟨⟨cb, n⟩, rfl, hp, h⟩ := h
    walk_at "go"
    refine os_mod hp ?_
    walk_at "go"
    exact os_in h


theorem ok_floor_catch (T : Tx K mg) {f : Addr} {fd : FuncData} (F : Here K mg "floor_catch" s_floor_catch ["comb", "number"] f fd) : D_floor_catch_ P w K mg base := by
  refine F.df (fgP F.1 sc_floor_catch (fun ds k h => ?_) fun cdv B fr s H E hg hr => ⟨_, ((pss_cons (ps_asg (pv 0) (pg_tup (n := 2) rfl (pgs_cons (pg_name (i := 2) sc_floor_catch.nd rfl (.inl rfl)) (pgs_cons (pg_name (i := 3) sc_floor_catch.nd rfl (.inl rfl)) pgs_nil))))
      (pss_cons (ps_set (i := 4) sc_floor_catch.nd rfl (.inr rfl) (pe_op op_mod (pv 1) (pv 2)))
      (pss_cons (ps_set (i := 5) sc_floor_catch.nd rfl (.inl rfl) (pe_op op_sub (pv 1) (pv 4)))
      (pss_cons (ps_setLc (i := 6) (own := [("tooth", 7)]) rfl sc_floor_catch.nd rfl rfl (sw_true rfl rfl rfl (by decide +kernel)) (pi_list (pv 3)) (blkOk_by (N := ["comb", "number", "pitch", "teeth", "rest", "start", "lower", "tooth"]) (sc := defScope s_floor_catch) (by decide +kernel)) (fun _ _ _ _ _ => (pg_name (i := 7) sc_floor_catch.nd rfl (Or.inl rfl) (Or.inr rfl))) (fun _ _ _ _ _ => (pts_one (pt_cmpR op_le (pv 7) (pv 4) (nomark _)))) (fun _ _ _ _ _ => (pv 7)))
      (pss_cons (ps_if (pt_truth (pv 6) (by intro _; rfl)) (pss_one (ps_ret (pe_op op_addU (pv 5) (pe_ix (r := rIx K) ix_seq (pv 6) (pe_un un_neg pe_int) (fun _ _ => rfl))))) pss_nil)
      (pss_one (ps_ret (pe_op op_addU (pe_op op_sub (pv 5) (pv 2)) (pe_ix (r := rIx K) ix_seq (pv 3) (pe_un un_neg pe_int) (fun _ _ => rfl))))))))))), ?_⟩)
  · obtain ⟨a, rfl, _⟩ := h; rfl
  · intro c ds k hc h
    obtain ⟨⟨cb, n⟩, rfl, ok, h⟩ := h
    walk_at "go"
    have hp : 0 < cb.p := by have := Comb.Ok.p1 (c := cb) ok; omega
    refine os_mod hp ?_
    walk_at "go"
    refine we_lcL (fun i acc _ => acc = ((cb.ts.take i).filter fun t => decide (t ≤ n % cb.p)).map PyData.int) (cb.ts.map PyData.int) (fun xs q => by cases q) ?_ ?_ ?_
    · walk_at "go"
      rfl
    · intro i x acc pl' hx hJ pin
      obtain ⟨t, ht, rfl⟩ := ints_at hx
      subst hJ
      walk_at "go"
      refine ite2 (fun hb => ?_) (fun hb => ?_)
      · walk_at "go"
        refine ⟨by rw [List.length_map]; exact ts_small ok _ _, ?_⟩
        rw [tfil_yes ht hb, List.map_append]
        rfl
      · rw [tfil_no ht (by simpa using hb)]
    · intro acc pl' hJ
      rw [List.length_map, List.take_length] at hJ
      subst hJ
      have hk : k (.int (flo cb n)) := h
      unfold flo lowT at hk
      generalize List.filter (fun t => decide (t ≤ n % cb.p)) cb.ts = L at hk ⊢
      cases L with
      | nil =>
        rw [if_pos rfl] at hk
        walk_at "go"
        refine os_ix (ix_last (Comb.Ok.ne (c := cb) ok)) ?_
        walk_at "go"
        exact hk
      | cons a r =>
        rw [if_neg (List.cons_ne_nil a r)] at hk
        walk_at "go"
        refine os_ix (ix_last (List.cons_ne_nil a r)) ?_
        walk_at "go"
        exact hk

theorem ok_copied_comb (T : Tx K mg) {f : Addr} {fd : FuncData} (F : Here K mg "copied_comb" s_copied_comb ["comb"] f fd) : D_copied_comb_ P w K mg base := by
  refine F.df (fgW F.1 sc_copied_comb (fun ds k h => ?_) fun cdv B fr s H E hg hr => ⟨_, ((pss_cons (ps_asg (pv 0) (pg_tup (n := 2) rfl (pgs_cons (pg_name (i := 1) sc_copied_comb.nd rfl (.inl rfl)) (pgs_cons (pg_name (i := 2) sc_copied_comb.nd rfl (.inl rfl)) pgs_nil))))
      (pss_one (ps_ret (pe_tup (pa_cons (pv 1) (pa_cons (pe_callTy (r := rListQ K) call_list_of (by rfl) T.n_list (by decide +kernel) (pa_cons (pv 2) pa_nil)) pa_nil))))))), ?_⟩)
  · obtain ⟨a, rfl, _⟩ := h; rfl
  · intro c ds k hc h D' G0 hk
    obtain ⟨cb, rfl, h⟩ := h
    walk_at "nz"
    refine wsk_seq ?_
    walk_at "go"
    intro G σ H hs e
    obtain ⟨v1, a1, a2⟩ := hs.slots 1 _ rfl
    obtain ⟨v2, b1, b2⟩ := hs.slots 2 _ rfl
    have a2' : R G v1 (.int cb.p) := a2
    cases a2'
    obtain ⟨q, us, rfl, d1, d2⟩ := RT.list (.inl (show R G v2 (.list (cb.ts.map PyData.int)) from b2)) hs.sub
    have eus := RA.ints d2
    subst eus
    refine ⟨_, a1, _, b1, q, _, rfl, .inl (SqL.of d1), fun la hla => ⟨by show 2 ≤ sizeLine; decide, fun a ha => ?_⟩⟩
    have n : a ≠ la := fun z => by rw [z, upd_same] at ha; cases ha
    have ha0 : H a = none := by rw [upd_ne n] at ha; exact ha
    refine hk (combP cb a la) (.ref a) _ (h a la n) (fun x o z => ?_) (fun x o z => ?_) fun x o z => ?_
    · have z1 := hs.keep x o (by rw [hc]; simp) z
      exact Ex.new ha _ _ (Ex.new hla _ _ z1)
    · unfold combP at z
      by_cases y : x = a
      · subst y; rw [if_pos rfl] at z; cases z; exact upd_same
      · rw [if_neg y] at z
        by_cases y2 : x = la
        · subst y2; rw [if_pos rfl] at z; cases z; rw [upd_ne y]; exact upd_same
        · rw [if_neg y2] at z; cases z
    · rcases combP_some z with rfl | rfl
      · exact (hs.none_of ha0).2.2.2.2
      · exact (hs.none_of hla).2.2.2.2

theorem ok_common_pitch (T : Tx K mg)  {f : Addr} {fd : FuncData} (F : Here K mg "common_pitch" s_common_pitch ["device"] f fd) : D_common_pitch_ P w K mg base := by
  refine F.df (fgP F.1 sc_common_pitch (fun ds k h => ?_) fun cdv B fr s H E hg hr => ⟨_, ((pss_cons (ps_asg (pv 0) (pg_tup (n := 2) rfl (pgs_cons (pg_name (i := 1) sc_common_pitch.nd rfl (.inl rfl)) (pgs_cons (pg_name (i := 2) sc_common_pitch.nd rfl (.inl rfl)) pgs_nil))))
      (pss_one (ps_ret (pe_callBfun cr_lcm (by rfl) T.b_lcm (pa_cons (pe_ix (r := rIx K) ix_seq (pv 1) pe_int (fun _ _ => rfl)) (pa_cons (pe_ix (r := rIx K) ix_seq (pv 2) pe_int (fun _ _ => rfl)) pa_nil))))))), ?_⟩)
  · obtain ⟨a, rfl, _⟩ := h; rfl
  · intro c ds k hc h
    obtain ⟨v, rfl, ok, h⟩ := h
    have ok' : v.Ok := ok
    have p24 := ok'.1.p24
    have q24 := ok'.2.p24
    have p1 := ok'.1.p1
    have q1 := ok'.2.p1
    have b64 : (25 : Nat) < 2 ^ 64 := by decide +kernel
    walk_at "nz"
    refine ws_seq (ws_unpN rfl (we_var rfl ⟨_, _, rfl, ?_⟩))
    walk_at "nz"
    refine ws_ret (we_cb ?_)
    walk_at "go"
    refine cb_lcm (by omega) (by omega) ?_
    exact h

theorem ok_teeth_under (T : Tx K mg)  {f : Addr} {fd : FuncData} (F : Here K mg "teeth_under" s_teeth_under ["teeth", "part"] f fd) : D_teeth_under_ P w K mg base := by
  refine F.df (fgW F.1 sc_teeth_under (fun ds k h => ?_) fun cdv B fr s H E hg hr => ⟨_, ((pss_one (ps_ret (pe_lc (own := [("tooth", 2)]) rfl sc_teeth_under.nd (pi_list (pv 0)) (blkOk_by (N := ["teeth", "part", "tooth"]) (sc := defScope s_teeth_under) (by decide +kernel)) (fun _ _ _ _ _ => (pg_name (i := 2) sc_teeth_under.nd rfl (Or.inl rfl) (Or.inr rfl))) (fun _ _ _ _ _ => (pts_one (pt_cmpR op_lt (pv 2) (pv 1) (nomark _)))) (fun _ _ _ _ _ => (pv 2)))))), ?_⟩)
  · obtain ⟨a, rfl, _⟩ := h; rfl
  · intro c ds k hc h D' G0 hk
    obtain ⟨⟨ts, part⟩, rfl, len, h⟩ := h
    have len : ts.length ≤ 24 := len
    walk_at "nz"
    refine wsk_ret (Φ := fun w _ => w = .o ((under ts part).map PyData.int)) ?_ ?_
    · refine we_lcLO (fun i acc p' => p' = [] ∧ acc = ((ts.take i).filter (fun t => decide (t < part))).map PyData.int) (ts.map PyData.int) (no_of rfl _) ?_ ?_ ?_
      · exact we_var rfl ⟨rfl, rfl, rfl⟩
      · rintro i x acc p' hx ⟨rfl, rfl⟩ pin
        obtain ⟨t, ht, rfl⟩ := ints_at hx
        have lenA : (((ts.take i).filter (fun t => decide (t < part))).map PyData.int).length < sizeLine := by
          rw [List.length_map]
          exact Nat.lt_of_le_of_lt (Nat.le_trans (List.length_filter_le _ _) (Nat.le_trans (List.length_take_le' _ _) (show _ ≤ 1000 by omega))) (by decide)
        rw [List.take_add_one, ht]
        rw [Option.toList_some, List.filter_append, List.map_append]
        walk_at "nz"
        refine wt_B (we_op (we_var rfl (we_var rfl (os_lt ?_))))
        walk_at "nz"
        refine ite2 (fun hb => ?_) (fun hb => ?_)
        · rw [List.filter_cons_of_pos (p := fun t : Int => decide (t < part)) hb]
          exact we_var rfl ⟨lenA, rfl, rfl⟩
        · rw [List.filter_cons_of_neg (p := fun t : Int => decide (t < part)) hb]
          exact ⟨rfl, (List.append_nil _).symm⟩
      rintro acc p' ⟨rfl, rfl⟩
      rw [List.length_map, List.take_length]
      rfl
    · rintro v G1 σ H1 w p1 hs e f1 rfl
      obtain ⟨p, us, rfl, a1, a2, a3, a4, a5, a6, a7⟩ := f1
      have eus := RA.ints a2
      subst eus
      refine hk (one p (.lst ((under ts part).map V.int))) (.ref p) _ (h p) (fun a o z => hs.keep a o (by rw [hc]; simp) z) (fun a o z => ?_) fun a o z => ?_
      · obtain ⟨rfl, rfl⟩ := one_some z
        exact a1
      · obtain ⟨rfl, rfl⟩ := one_some z
        exact a4

theorem ok_moved_bar (T : Tx K mg)  {f : Addr} {fd : FuncData} (F : Here K mg "moved_bar" s_moved_bar ["slacks", "height", "lift", "moves"] f fd) : D_moved_bar_ P w K mg base := by
  refine F.df (fgP F.1 sc_moved_bar (fun ds k h => ?_) fun cdv B fr s H E hg hr => ⟨_, ((pss_cons (ps_asg (pv 0) (pg_tup (n := 2) rfl (pgs_cons (pg_name (i := 4) sc_moved_bar.nd rfl (.inl rfl)) (pgs_cons (pg_name (i := 5) sc_moved_bar.nd rfl (.inl rfl)) pgs_nil))))
      (pss_cons (ps_for PassesOwn.never rfl (pi_list (pv 3)) (pg_name (i := 6) sc_moved_bar.nd rfl (.inl rfl)) (pss_one (ps_if (pt_cmpR op_gt (pv 6) pe_int (nomark _)) (pss_cons (ps_set (i := 7) sc_moved_bar.nd rfl (.inl rfl) (pe_callB (call_min2 rfl) (by rfl) T.n_min (by decide +kernel) (pa_cons (pv 6) (pa_cons (pe_ix (r := rIx K) ix_seq (pv 5) (pe_op op_mod (pv 2) (pe_callB (r := rLenQ K) call_len_seq (by rfl) T.n_len (by decide +kernel) (pa_cons (pv 5) pa_nil))) (fun _ _ => rfl)) pa_nil))))
      (pss_cons (ps_set (i := 1) sc_moved_bar.nd rfl (.inl rfl) (pe_op op_sub (pe_op op_addU (pv 1) (pv 6)) (pv 7)))
      (pss_one (ps_set (i := 2) sc_moved_bar.nd rfl (.inl rfl) (pe_op op_sub (pv 2) (pv 7)))))) (pss_cons (ps_set (i := 7) sc_moved_bar.nd rfl (.inl rfl) (pe_callB (call_min2 rfl) (by rfl) T.n_min (by decide +kernel) (pa_cons (pe_un un_neg (pv 6)) (pa_cons (pe_ix (r := rIx K) ix_seq (pv 4) (pe_op op_mod (pv 1) (pe_callB (r := rLenQ K) call_len_seq (by rfl) T.n_len (by decide +kernel) (pa_cons (pv 4) pa_nil))) (fun _ _ => rfl)) pa_nil))))
      (pss_cons (ps_set (i := 1) sc_moved_bar.nd rfl (.inl rfl) (pe_op op_sub (pv 1) (pv 7)))
      (pss_one (ps_set (i := 2) sc_moved_bar.nd rfl (.inl rfl) (pe_op op_sub (pe_op op_sub (pv 2) (pv 6)) (pv 7)))))))))
      (pss_one (ps_ret (pe_tup (pa_cons (pv 1) (pa_cons (pv 2) pa_nil)))))))), ?_⟩)
  · obtain ⟨a, rfl, _⟩ := h; rfl
  · intro c ds k hc h
    obtain ⟨⟨v, s, ms⟩, rfl, ok, h⟩ := h
    have ok' : v.Ok := ok
    walk_at "go"
    refine ws_forL (fun i ds' pl' => ∃ a b, ds' = [some (.d (slD v)), some (.d (.int (mvs v s (ms.take i)).1)), some (.d (.int (lf (mvs v s (ms.take i))))), some (.d (.list (ms.map PyData.int))), some (.d (.list ((sl v.1).map PyData.int))), some (.d (.list ((sl v.2).map PyData.int))), a, b] ∧ pl' = []) (ms.map PyData.int) ?_ ?_ ?_
    · walk_at "go"
      exact rfl
    · rintro i x ds' pl' hx ⟨a, b, rfl, rfl⟩
      obtain ⟨t, ht, rfl⟩ := ints_at hx
      have es := mvs_take_succ v s ms i t ht
      rw [es]
      generalize mvs v s (ms.take i) = z
      walk_at "nz"
      walk_at "go"
      refine ite2 (fun hb => ?_) (fun hb => ?_)
      · have t0 : 0 < t := of_decide_eq_true hb
        rw [mv_up' t0]
        walk_at "go"
        refine os_mod (len_pos ok'.2) ?_
        rw [mod_len ok'.2]
        refine os_ix (sl_at ok'.2 _) ?_
        walk_at "go"
        refine ⟨some (.d (.int t)), some (.d (.int (min t (slk v.2 (lf z))))), ?_, rfl⟩
        have e : lf z - min t (slk v.2 (lf z)) = z.1 + t - min t (slk v.2 (lf z)) - (z.2 + t) := by unfold lf; omega
        rw [e]
      · have t0 : ¬ 0 < t := fun y => hb (decide_eq_true y)
        rw [mv_down' t0]
        walk_at "go"
        refine os_mod (len_pos ok'.1) ?_
        rw [mod_len ok'.1]
        refine os_ix (sl_at ok'.1 _) ?_
        walk_at "go"
        refine ⟨some (.d (.int t)), some (.d (.int (min (-t) (slk v.1 z.1)))), ?_, rfl⟩
        have e : lf z - t - min (-t) (slk v.1 z.1) = z.1 - min (-t) (slk v.1 z.1) - (z.2 + t) := by unfold lf; omega
        rw [e]
    · rintro ds' pl' ⟨a, b, rfl, rfl⟩
      rw [List.length_map, List.take_length]
      walk_at "go"
      exact h

theorem ok_cycle_rise (T : Tx K mg)  {f : Addr} {fd : FuncData} (F : Here K mg "cycle_rise" s_cycle_rise ["heights", "ahead"] f fd) : D_cycle_rise_ P w K mg base := by
  refine F.df (fgP F.1 sc_cycle_rise (fun ds k h => ?_) fun cdv B fr s H E hg hr => ⟨_, ((pss_one (ps_ret (pe_tup (pa_cons (pe_op op_sub (pe_op op_sub (pe_callB (r := rLenQ K) call_len_seq (by rfl) T.n_len (by decide +kernel) (pa_cons (pv 0) pa_nil)) pe_int) (pv 1)) (pa_cons (pe_op op_sub (pe_ix (r := rIx K) ix_seq (pv 0) (pe_un un_neg pe_int) (fun _ _ => rfl)) (pe_ix (r := rIx K) ix_seq (pv 0) (pv 1) (fun _ _ => rfl))) pa_nil)))))), ?_⟩)
  · obtain ⟨a, rfl, _⟩ := h; rfl
  · intro c ds k hc h
    obtain ⟨⟨v, s, ms, n, j⟩, rfl, lt, h⟩ := h
    have lt' : j < n := lt
    walk_at "go"
    rw [List.length_map, hts_len]
    walk_at "go"
    refine os_ix (hts_last v ms s n) ?_
    walk_at "go"
    refine os_ix (hts_at v ms s (show j < n + 1 by omega)) ?_
    walk_at "go"
    have e : ((n + 1 : Nat) : Int) - 1 - (j : Int) = (n : Int) - (j : Int) := by omega
    rw [e]
    exact h

theorem ok_needed_cycles (T : Tx K mg)  {f : Addr} {fd : FuncData} (F : Here K mg "needed_cycles" s_needed_cycles ["reached", "height", "rise"] f fd) : D_needed_cycles_ P w K mg base := by
  refine F.df (fgP F.1 sc_needed_cycles (fun ds k h => ?_) fun cdv B fr s H E hg hr => ⟨_, ((pss_one (ps_ret (pe_un un_neg (pe_op op_fdivW (pe_op op_sub (pv 0) (pv 1)) (pv 2)))))), ?_⟩)
  · obtain ⟨a, rfl, _⟩ := h; rfl
  · intro c ds k hc h
    obtain ⟨⟨x, g, r⟩, rfl, ⟨r0, r1⟩, h⟩ := h
    walk_at "go"
    refine os_fdiv (divw _ r0 r1) ?_
    walk_at "go"
    exact h

theorem ok_check_within (T : Tx K mg)  {f : Addr} {fd : FuncData} (F : Here K mg "check_within" s_check_within ["state", "reach"] f fd) : D_check_within_ P w K mg base := by
  refine F.df (fgP F.1 sc_check_within (fun ds k h => ?_) fun cdv B fr s H E hg hr => ⟨_, ((pss_cons (ps_asg (pv 0) (pg_tup (n := 2) rfl (pgs_cons (pg_name (i := 2) sc_check_within.nd rfl (.inl rfl)) (pgs_cons (pg_name (i := 3) sc_check_within.nd rfl (.inl rfl)) pgs_nil))))
      (pss_one (ps_if (PW.pt (pw_or (pt_cmpR op_lt (pv 3) pe_int (nomark _)) (pw_or1 (pt_cmpR op_gt (pv 3) (pv 1) (nomark _))))) (pss_one ps_never) pss_nil)))), ?_⟩)
  · obtain ⟨a, rfl, _⟩ := h; rfl
  · intro c ds k hc h
    obtain ⟨⟨s, r⟩, rfl, ⟨h0, h1⟩, h⟩ := h
    have h0' : 0 ≤ s.2 := h0
    have h1' : s.2 ≤ r := h1
    walk_at "nz"
    refine ws_seq (ws_unpN rfl (we_var rfl ⟨_, _, rfl, ?_⟩))
    walk_at "nz"
    refine ws_if (wt_or (wt_B ?_))
    walk_at "go"
    refine ite2 (fun hb => by have := of_decide_eq_true hb; omega) (fun _ => ?_)
    refine wt_B ?_
    walk_at "go"
    refine ite2 (fun hb => by have := of_decide_eq_true hb; omega) (fun _ => ?_)
    refine ws_next ?_
    exact h

theorem ok_heights_from (T : Tx K mg)  {f : Addr} {fd : FuncData} (F : Here K mg "heights_from" s_heights_from ["slacks", "height", "hand", "reach"] f fd) : D_heights_from_ P w K mg base := by
  refine F.df (fgP F.1 sc_heights_from (fun ds k h => ?_) fun cdv B fr s H E hg hr => ⟨_, ((pss_cons (ps_asg (pv 0) (pg_tup (n := 2) rfl (pgs_cons (pg_name (i := 4) sc_heights_from.nd rfl (.inl rfl)) (pgs_cons (pg_name (i := 5) sc_heights_from.nd rfl (.inl rfl)) pgs_nil))))
      (pss_cons (ps_set (i := 6) sc_heights_from.nd rfl (.inr rfl) (pe_ix (r := rIx K) ix_seq (pv 4) (pe_op op_mod (pv 1) (pe_callB (r := rLenQ K) call_len_seq (by rfl) T.n_len (by decide +kernel) (pa_cons (pv 4) pa_nil))) (fun _ _ => rfl)))
      (pss_cons (ps_set (i := 7) sc_heights_from.nd rfl (.inr rfl) (pe_ix (r := rIx K) ix_seq (pv 5) (pe_op op_mod (pe_op op_sub (pv 1) (pv 2)) (pe_callB (r := rLenQ K) call_len_seq (by rfl) T.n_len (by decide +kernel) (pa_cons (pv 5) pa_nil))) (fun _ _ => rfl)))
      (pss_cons (ps_setLc (i := 8) (own := [("goal", 10)]) rfl sc_heights_from.nd rfl rfl (sw_true rfl rfl rfl (by decide +kernel)) (pi_range1 (by rfl) T.n_range (pa_cons (pv 2) pa_nil)) (blkOk_by (N := ["slacks", "height", "hand", "reach", "ground", "grip", "sink", "slack", "lower", "upper", "goal"]) (sc := defScope s_heights_from) (by decide +kernel)) (fun _ _ _ _ _ => (pg_name (i := 10) sc_heights_from.nd rfl (Or.inl rfl) (Or.inr rfl))) (fun _ _ _ _ _ => pts_nil) (fun _ _ _ _ _ => (pe_op op_sub (pv 1) (pe_callB (call_min2 rfl) (by rfl) T.n_min (by decide +kernel) (pa_cons (pe_op op_sub (pv 2) (pv 10)) (pa_cons (pv 6) pa_nil))))))
      (pss_cons (ps_setLc (i := 9) (own := [("goal", 10)]) rfl sc_heights_from.nd rfl rfl (sw_true rfl rfl rfl (by decide +kernel)) (pi_range2 (by rfl) T.n_range (pa_cons (pv 2) (pa_cons (pe_op op_addU (pv 3) pe_int) pa_nil))) (blkOk_by (N := ["slacks", "height", "hand", "reach", "ground", "grip", "sink", "slack", "lower", "upper", "goal"]) (sc := defScope s_heights_from) (by decide +kernel)) (fun _ _ _ _ _ => (pg_name (i := 10) sc_heights_from.nd rfl (Or.inl rfl) (Or.inr rfl))) (fun _ _ _ _ _ => pts_nil) (fun _ _ _ _ _ => (pe_op op_addU (pv 1) (pe_callB (call_max2 rfl) (by rfl) T.n_max (by decide +kernel) (pa_cons (pe_op op_sub (pe_op op_sub (pv 10) (pv 2)) (pv 7)) (pa_cons pe_int pa_nil))))))
      (pss_one (ps_ret (pe_op op_addU (pv 8) (pv 9)))))))))), ?_⟩)
  · obtain ⟨a, rfl, _⟩ := h; rfl
  · intro c ds k hc h
    obtain ⟨⟨v, h0, hand, reach⟩, rfl, ⟨ok, hr, r24⟩, h⟩ := h
    have ok' : v.Ok := ok
    have hr' : hand ≤ reach := hr
    have r24' : reach ≤ 24 := r24
    have h' : k (.list ((List.range (reach + 1)).map fun g => .int (reachH v h0 hand g))) := h
    obtain ⟨hd9, e1⟩ : ∃ y : Int, (hand : Int) = y := ⟨_, rfl⟩
    obtain ⟨rc9, e2⟩ : ∃ y : Int, (reach : Int) = y := ⟨_, rfl⟩
    walk_at "nz"
    rw [e1, e2]
    refine ws_seq (ws_unpN rfl (we_var rfl ⟨_, _, rfl, ?_⟩))
    walk_at "nz"
    refine ws_seq (ws_set (we_op (we_var rfl ?_)))
    walk_at "go"
    refine os_mod (len_pos ok'.1) ?_
    rw [mod_len ok'.1]
    refine os_ix (sl_at ok'.1 _) ?_
    walk_at "nz"
    refine ws_seq (ws_set (we_op (we_var rfl ?_)))
    walk_at "go"
    refine os_mod (len_pos ok'.2) ?_
    rw [mod_len ok'.2]
    refine os_ix (sl_at ok'.2 _) ?_
    walk_at "nz"
    refine ws_seq (ws_set ?_)
    refine we_lcR (fun i acc pl' => pl' = [] ∧ acc = (List.range i).map fun g => PyData.int (reachH v h0 hand g)) hand (no_of rfl _) ?_ ?_ ?_
    · refine wa_cons (we_var rfl (wa_nil ⟨hd9, rfl, by omega, by omega, by omega, rfl, rfl⟩))
    · rintro i acc pl' hi ⟨rfl, rfl⟩ pin
      obtain ⟨i9, hi9⟩ : ∃ y : Int, (i : Int) = y := ⟨_, rfl⟩
      rw [hi9]
      walk_at "nz"
      refine wt_yes ?_
      walk_at "nz"
      refine iteV rfl ?_
      walk_at "go"
      refine ⟨by rw [List.length_map, List.length_range]; exact Nat.lt_of_le_of_lt (show i ≤ 100 by omega) (by decide), rfl, ?_⟩
      rw [List.range_succ, List.map_append]
      have e : reachH v h0 hand i = h0 - min (hd9 - i9) (slk v.1 h0) := by
        unfold reachH
        rw [if_pos hi, e1, hi9]
      show _ = _ ++ [PyData.int (reachH v h0 hand i)]
      rw [e]
    rintro acc pl' ⟨rfl, rfl⟩
    walk_at "nz"
    refine ws_seq (ws_set ?_)
    refine we_lcR2 (fun i acc pl' => pl' = [] ∧ acc = (List.range i).map fun g => PyData.int (reachH v h0 hand (hand + g))) hd9 (rc9 + 1) (no_of rfl _) ?_ ?_ ?_
    · refine wa_cons (we_var rfl (wa_cons (we_op (we_var rfl (we_int (os_addI (wa_nil ⟨rfl, ⟨by omega, by omega, by omega, by omega⟩, rfl, rfl⟩)))))))
    · rintro i acc pl' hi ⟨rfl, rfl⟩ pin
      have hi2 : i < reach + 1 - hand := by omega
      have hg : ((hand + i : Nat) : Int) = hd9 + (i : Int) := by omega
      obtain ⟨g9, hg9⟩ : ∃ y : Int, hd9 + (i : Int) = y := ⟨_, rfl⟩
      rw [hg9] at hg ⊢
      walk_at "nz"
      refine wt_yes ?_
      walk_at "nz"
      refine iteV rfl ?_
      walk_at "go"
      refine ⟨by rw [List.length_map, List.length_range]; exact Nat.lt_of_le_of_lt (show i ≤ 100 by omega) (by decide), rfl, ?_⟩
      rw [List.range_succ, List.map_append]
      have e : reachH v h0 hand (hand + i) = h0 + max (g9 - hd9 - slk v.2 (h0 - hd9)) 0 := by
        unfold reachH
        rw [if_neg (by omega), e1, hg]
      show _ = _ ++ [PyData.int (reachH v h0 hand (hand + i))]
      rw [e]
    rintro acc pl' ⟨rfl, rfl⟩
    walk_at "nz"
    refine ws_ret (we_op (we_var rfl (we_var rfl ?_)))
    refine os_addL ?_ ?_
    · rw [List.length_map, List.length_map, List.length_range, List.length_range]
      exact Nat.le_trans (show _ ≤ 100 by omega) (by decide)
    have e : (rc9 + 1 - hd9).toNat = reach + 1 - hand := by omega
    have e3 : ((List.range hand).map fun g => PyData.int (reachH v h0 hand g)) ++ ((List.range (rc9 + 1 - hd9).toNat).map fun g => PyData.int (reachH v h0 hand (hand + g))) = (List.range (reach + 1)).map fun g => PyData.int (reachH v h0 hand g) := by
      rw [e]
      have r : List.range (reach + 1) = List.range hand ++ (List.range (reach + 1 - hand)).map (hand + ·) := by
        rw [← List.range_add, show hand + (reach + 1 - hand) = reach + 1 by omega]
      rw [r, List.map_append, List.map_map]
      rfl
    rw [e3]
    exact h'

theorem ok_check_round (T : Tx K mg)  {f : Addr} {fd : FuncData} (F : Here K mg "check_round" s_check_round ["moves"] f fd) : D_check_round_ P w K mg base := by
  refine F.df (fgP F.1 sc_check_round (fun ds k h => ?_) fun cdv B fr s H E hg hr => ⟨_, ((pss_one (ps_if (PW.pt (pw_or (pt_cmpR (r := rEqU K) (op_eqU hr.units) (pe_callB (r := rLenQ K) call_len_seq (by rfl) T.n_len (by decide +kernel) (pa_cons (pv 0) pa_nil)) pe_int (nomark _)) (pw_or1 (pt_cmpR (r := rNeU K) (op_neU hr.units) (pe_callB (r := rSum K) (cr_sum rfl) (by rfl) T.n_sum (by decide +kernel) (pa_cons (pv 0) pa_nil)) pe_int (nomark _))))) (pss_one ps_never) pss_nil))), ?_⟩)
  · obtain ⟨a, rfl, _⟩ := h; rfl
  · intro c ds k hc h
    obtain ⟨ms, rfl, ⟨m0, ms0⟩, h⟩ := h
    have e1 : decide (((ms.map PyData.int).length : Int) = 0) = false := decide_eq_false (by
      rw [List.length_map]
      have := List.length_pos_iff.mpr m0
      omega)
    have ms0' : ms.sum = 0 := ms0
    walk_at "go"
    rw [e1]
    walk_at "nz"
    refine iteN rfl ?_
    walk_at "go"
    refine cb_sum ?_
    rw [ms0']
    walk_at "go"
    exact h

theorem ok_pair_place (T : Tx K mg)  {f : Addr} {fd : FuncData} (F : Here K mg "pair_place" s_pair_place ["slacks", "hand", "one", "other"] f fd) : D_pair_place_ P w K mg base := by
  refine F.df (fgP F.1 sc_pair_place (fun ds k h => ?_) fun cdv B fr s H E hg hr => ⟨_, ((pss_cons (ps_asg (pv 0) (pg_tup (n := 2) rfl (pgs_cons (pg_name (i := 4) sc_pair_place.nd rfl (.inl rfl)) (pgs_cons (pg_name (i := 5) sc_pair_place.nd rfl (.inl rfl)) pgs_nil))))
      (pss_cons (ps_set (i := 6) sc_pair_place.nd rfl (.inl rfl) (pe_callB (call_min2 rfl) (by rfl) T.n_min (by decide +kernel) (pa_cons (pv 2) (pa_cons (pv 3) pa_nil))))
      (pss_one (ps_ret (pe_tup (pa_cons (pe_op op_mod (pv 6) (pe_callB (r := rLenQ K) call_len_seq (by rfl) T.n_len (by decide +kernel) (pa_cons (pv 4) pa_nil))) (pa_cons (pe_op op_mod (pe_op op_sub (pv 6) (pv 1)) (pe_callB (r := rLenQ K) call_len_seq (by rfl) T.n_len (by decide +kernel) (pa_cons (pv 5) pa_nil))) (pa_cons (pe_callB call_abs (by rfl) T.n_abs (by decide +kernel) (pa_cons (pe_op op_sub (pv 3) (pv 2)) pa_nil)) pa_nil))))))))), ?_⟩)
  · obtain ⟨a, rfl, _⟩ := h; rfl
  · intro c ds k hc h
    obtain ⟨⟨v, hand, x, y⟩, rfl, ok, h⟩ := h
    have ok' : v.Ok := ok
    have h' : k (pl3 v (min x y, hand) ((y - x).natAbs : Int)) := h
    walk_at "nz"
    refine ws_seq (ws_unpN rfl (we_var rfl ⟨_, _, rfl, ?_⟩))
    walk_at "nz"
    refine ws_seq (ws_set (we_cb (wa_cons (we_var rfl (wa_cons (we_var rfl (wa_nil (cb_min2 ?_))))))))
    walk_at "nz"
    refine ws_ret (we_tup (wa_cons (we_op (we_var rfl (we_cb (wa_cons (we_var rfl (wa_nil (cb_lenL ?_)))))))))
    refine os_mod (len_pos ok'.1) ?_
    rw [mod_len ok'.1]
    refine wa_cons (we_op (we_op (we_var rfl (we_var rfl (os_sub ?_)))))
    refine we_cb (wa_cons (we_var rfl (wa_nil (cb_lenL ?_))))
    refine os_mod (len_pos ok'.2) ?_
    rw [mod_len ok'.2]
    walk_at "go"
    exact h'

theorem ok_single_moves (T : Tx K mg)  {f : Addr} {fd : FuncData} (F : Here K mg "single_moves" s_single_moves ["slacks"] f fd) : D_single_moves_ P w K mg base := by
  refine F.df (fgP F.1 sc_single_moves (fun ds k h => ?_) fun cdv B fr s H E hg hr => ⟨_, ((pss_cons (ps_asg (pv 0) (pg_tup (n := 2) rfl (pgs_cons (pg_name (i := 1) sc_single_moves.nd rfl (.inl rfl)) (pgs_cons (pg_name (i := 2) sc_single_moves.nd rfl (.inl rfl)) pgs_nil))))
      (pss_cons (ps_setLc (i := 3) (own := [("size", 5)]) rfl sc_single_moves.nd rfl rfl (sw_true rfl rfl rfl (by decide +kernel)) (pi_range2 (by rfl) T.n_range (pa_cons pe_int (pa_cons (pe_op op_addU (pe_op op_addU (pe_callB (r := rMax K) (cr_max rfl) (by rfl) T.n_max (by decide +kernel) (pa_cons (pv 2) pa_nil)) (pe_callB (r := rLenQ K) call_len_seq (by rfl) T.n_len (by decide +kernel) (pa_cons (pv 1) pa_nil))) pe_int) pa_nil))) (blkOk_by (N := ["slacks", "ground", "grip", "up", "down", "size"]) (sc := defScope s_single_moves) (by decide +kernel)) (fun _ _ _ _ _ => (pg_name (i := 5) sc_single_moves.nd rfl (Or.inl rfl) (Or.inr rfl))) (fun _ _ _ _ _ => pts_nil) (fun _ _ _ _ _ => (pe_lst (pa_cons (pv 5) pa_nil))))
      (pss_cons (ps_setLc (i := 4) (own := [("size", 5)]) rfl sc_single_moves.nd rfl rfl (sw_true rfl rfl rfl (by decide +kernel)) (pi_range2 (by rfl) T.n_range (pa_cons pe_int (pa_cons (pe_op op_addU (pe_op op_addU (pe_callB (r := rMax K) (cr_max rfl) (by rfl) T.n_max (by decide +kernel) (pa_cons (pv 1) pa_nil)) (pe_callB (r := rLenQ K) call_len_seq (by rfl) T.n_len (by decide +kernel) (pa_cons (pv 2) pa_nil))) pe_int) pa_nil))) (blkOk_by (N := ["slacks", "ground", "grip", "up", "down", "size"]) (sc := defScope s_single_moves) (by decide +kernel)) (fun _ _ _ _ _ => (pg_name (i := 5) sc_single_moves.nd rfl (Or.inl rfl) (Or.inr rfl))) (fun _ _ _ _ _ => pts_nil) (fun _ _ _ _ _ => (pe_lst (pa_cons (pe_un un_neg (pv 5)) pa_nil))))
      (pss_one (ps_ret (pe_op op_addU (pv 3) (pv 4)))))))), ?_⟩)
  · obtain ⟨a, rfl, _⟩ := h; rfl
  · intro c ds k hc h
    obtain ⟨v, rfl, ok, h⟩ := h
    have ok' : v.Ok := ok
    have l1 := mod_len ok'.1
    have l2 := mod_len ok'.2
    have p24 := ok'.1.p24
    have q24 := ok'.2.p24
    have p1 := ok'.1.p1
    have q1 := ok'.2.p1
    have s1 : ∀ n, slk v.1 n ∈ sl v.1 := fun n => sl_mem' ok'.1 n
    have s2 : ∀ n, slk v.2 n ∈ sl v.2 := fun n => sl_mem' ok'.2 n
    have b1 : ∀ y ∈ sl v.1, 0 ≤ y ∧ y < 24 := fun y hy => sl_rng ok'.1 hy
    have b2 : ∀ y ∈ sl v.2, 0 ≤ y ∧ y < 24 := fun y hy => sl_rng ok'.2 hy
    have n1 : sl v.1 ≠ [] := fun e => by have := s1 0; rw [e] at this; cases this
    have n2 : sl v.2 ≠ [] := fun e => by have := s2 0; rw [e] at this; cases this
    walk_at "nz"
    refine ws_seq (ws_unpN rfl (we_var rfl ⟨_, _, rfl, ?_⟩))
    walk_at "nz"
    refine ws_seq (ws_set ?_)
    have max_ex : ∀ l : List Int, l ≠ [] → ∃ m, m ∈ l ∧ ∀ y ∈ l, y ≤ m := fun l hl => by
      obtain ⟨a, b⟩ := minL_spec (l := l.map fun x => -x) (by simpa using hl)
      obtain ⟨x, hx, e⟩ := List.mem_map.mp a
      exact ⟨x, hx, fun y hy => by have := b (-y) (List.mem_map.mpr ⟨y, hy, rfl⟩); omega⟩
    have ll1 : (sl v.1).length = v.1.p.toNat := by unfold sl; rw [List.length_map, List.length_range]
    have ll2 : (sl v.2).length = v.2.p.toNat := by unfold sl; rw [List.length_map, List.length_range]
    obtain ⟨m2, hm2⟩ : ∃ m2 : Int, m2 ∈ sl v.2 ∧ ∀ y ∈ sl v.2, y ≤ m2 := max_ex _ n2
    obtain ⟨m1, hm1⟩ : ∃ m1 : Int, m1 ∈ sl v.1 ∧ ∀ y ∈ sl v.1, y ≤ m1 := max_ex _ n1
    have c2 := b2 _ hm2.1
    have c1 := b1 _ hm1.1
    obtain ⟨A, hA⟩ : ∃ A : Nat, m2 + v.1.p = (A : Int) := ⟨(m2 + v.1.p).toNat, by omega⟩
    obtain ⟨B, hB⟩ : ∃ B : Nat, m1 + v.2.p = (B : Int) := ⟨(m1 + v.2.p).toNat, by omega⟩
    refine we_lcR2 (fun i acc p' => p' = [] ∧ acc = (List.range i).map fun (k : Nat) => PyData.list [.int (1 + (k : Int))]) 1 ((A : Int) + 1) (no_of rfl _) ?_ ?_ ?_
    · refine wa_cons (we_int (wa_cons (we_op (we_op (we_cb (wa_cons (we_var rfl (wa_nil (cb_maxI n2 fun z z1 z2 => ?_)))))))))
      have ez : z = m2 := by
        have a1 := z2 _ hm2.1
        have a2 := hm2.2 _ z1
        omega
      subst ez
      refine we_cb (wa_cons (we_var rfl (wa_nil (cb_lenL ?_))))
      refine os_addI (we_int (os_addI ?_))
      refine wa_nil ⟨?_, by omega, rfl, rfl⟩
      rw [List.length_map, ll1, show z + ((v.1.p.toNat : Nat) : Int) + 1 = (A : Int) + 1 by omega]
    · rintro i acc p' hi ⟨rfl, rfl⟩ pin
      have len : ((List.range i).map fun (k : Nat) => PyData.list [.int (1 + (k : Int))]).length < sizeLine := by
        rw [List.length_map, List.length_range]
        exact Nat.lt_of_le_of_lt (show _ ≤ 1000 by omega) (by decide)
      obtain ⟨i9, hi9⟩ : ∃ y : Int, 1 + (i : Int) = y := ⟨_, rfl⟩
      rw [List.range_succ, List.map_append, hi9]
      walk_at "nz"
      refine wt_yes ?_
      walk_at "nz"
      refine iteV rfl ?_
      refine we_lst (wa_cons (we_var rfl (wa_nil ⟨by show 1 ≤ sizeLine; decide, len, rfl, ?_⟩)))
      rw [← hi9]
    rintro acc p' ⟨rfl, rfl⟩
    rw [show ((A : Int) + 1 - 1).toNat = A by omega]
    walk_at "nz"
    refine ws_seq (ws_set ?_)
    refine we_lcR2 (fun i acc p' => p' = [] ∧ acc = (List.range i).map fun (k : Nat) => PyData.list [.int (-(1 + (k : Int)))]) 1 ((B : Int) + 1) (no_of rfl _) ?_ ?_ ?_
    · refine wa_cons (we_int (wa_cons (we_op (we_op (we_cb (wa_cons (we_var rfl (wa_nil (cb_maxI n1 fun z z1 z2 => ?_)))))))))
      have ez : z = m1 := by
        have a1 := z2 _ hm1.1
        have a2 := hm1.2 _ z1
        omega
      subst ez
      refine we_cb (wa_cons (we_var rfl (wa_nil (cb_lenL ?_))))
      refine os_addI (we_int (os_addI ?_))
      refine wa_nil ⟨?_, by omega, rfl, rfl⟩
      rw [List.length_map, ll2, show z + ((v.2.p.toNat : Nat) : Int) + 1 = (B : Int) + 1 by omega]
    · rintro i acc p' hi ⟨rfl, rfl⟩ pin
      have len : ((List.range i).map fun (k : Nat) => PyData.list [.int (-(1 + (k : Int)))]).length < sizeLine := by
        rw [List.length_map, List.length_range]
        exact Nat.lt_of_le_of_lt (show _ ≤ 1000 by omega) (by decide)
      obtain ⟨i9, hi9⟩ : ∃ y : Int, 1 + (i : Int) = y := ⟨_, rfl⟩
      rw [List.range_succ, List.map_append, hi9]
      walk_at "nz"
      refine wt_yes ?_
      walk_at "nz"
      refine iteV rfl ?_
      refine we_lst (wa_cons (we_neg (we_var rfl (wa_nil ⟨by show 1 ≤ sizeLine; decide, len, rfl, ?_⟩))))
      rw [← hi9]
    rintro acc p' ⟨rfl, rfl⟩
    rw [show ((B : Int) + 1 - 1).toNat = B by omega]
    walk_at "nz"
    refine ws_ret (we_op (we_var rfl (we_var rfl (os_addL (Nat.le_trans (show _ ≤ 1000 by simp only [List.length_map, List.length_range]; omega) (by decide)) ?_))))
    exact h _ ⟨A, B, by omega, by omega, fun n => by have := hm2.2 _ (s2 n); omega, fun n => by have := hm1.2 _ (s1 n); omega, rfl⟩

theorem ok_trail_back (T : Tx K mg)  {f : Addr} {fd : FuncData} (F : Here K mg "trail_back" s_trail_back ["before", "place"] f fd) : D_trail_back_ P w K mg base := by
  refine F.df (fgBack F.1 sc_trail_back rfl fun cdv B fr s H E hg hr => ⟨_, ((pss_cons (ps_set (i := 2) sc_trail_back.nd rfl (.inl rfl) (pe_lst pa_nil))
      (pss_cons (ps_set (i := 3) sc_trail_back.nd rfl (.inl rfl) (pe_dget (hu_of hr) (pv 0) (pv 1) (fun _ _ => rfl)))
      (pss_cons (ps_while PassesOwn.never (pt_cmpR op_notN (pv 3) pe_non (nomark _)) (pss_cons (ps_asg (pv 3) (pg_tup (n := 2) rfl (pgs_cons (pg_name (i := 1) sc_trail_back.nd rfl (.inl rfl)) (pgs_cons (pg_name (i := 4) sc_trail_back.nd rfl (.inl rfl)) pgs_nil))))
      (pss_cons (ps_expr (pe_bm PySem.F.plainAttrs_list PySem.F.slot_list_append PySem.F.type_list_append mt_append (pv 2) (pa_cons (pv 4) pa_nil)))
      (pss_one (ps_set (i := 3) sc_trail_back.nd rfl (.inl rfl) (pe_dget (hu_of hr) (pv 0) (pv 1) (fun _ _ => rfl)))))))
      (pss_one (ps_ret (pe_revL (pv 2)))))))), ?_⟩)
  intro c p kvs ks ms G0 D' hc bk lm ft
  walk_at "nz"
  refine wsk_seq (ws_setO (wa_nil ⟨by show 0 ≤ sizeLine; decide, ?_⟩))
  walk_at "nz"
  obtain ⟨x, d, hv, hx, hd⟩ := bk.get
  refine wsk_dgetSet (id := 0) (ip := 1) rfl rfl hv hx ?_
  walk_at "nz"
  refine wsk_whileG (fun G1 m ds' pl' => ∃ (ks' ms1 ms2 : List Int) (d' : D) (mv : Option W), m = ms2.length ∧ ms = ms1 ++ ms2 ∧ pl' = [] ∧ ((ms2 = [] ∧ d' = .none) ∨ ∃ m' kn ms', ms2 = m' :: ms' ∧ d' = .tuple [.tuple (List.map PyData.int kn), .int m'] ∧ Bk G1 kvs kn ms') ∧
    ds' = [some (.v (.ref p)), some (.d (.tuple (ks'.map PyData.int))), some (.o (ms1.map PyData.int)), some (.d d'), mv]) ms.length ?_ ?_
  · exact fun G e => ⟨ks, [], ms, d, none, rfl, rfl, rfl, by
      rcases hd with z | ⟨m', kn, ms', z1, z2, z3⟩
      · exact .inl z
      · exact .inr ⟨m', kn, ms', z1, z2, z3.up e⟩, rfl⟩
  · rintro G1 m ds' pl' e1 ⟨ks', ms1, ms2, d', mv, rfl, em, rfl, hd', rfl⟩
    refine wt_B (we_op (we_var rfl (we_non (os_notN ?_))))
    rcases hd' with ⟨rfl, rfl⟩ | ⟨m', kn, ms', rfl, rfl, bk'⟩
    · refine ⟨fun _ => ?_, fun z => by cases z⟩
      refine wsk_of_ws ?_ (ft.up e1)
      walk_at "nz"
      refine ws_ret (we_revO rfl ?_)
      show _ = _
      rw [em, List.append_nil, List.map_reverse]
    · refine ⟨(fun z => by cases z), fun _ D2 D2r nxt => ?_⟩
      walk_at "nz"
      refine wsk_seq (ws_unpN rfl (we_var rfl ⟨_, _, rfl, ?_⟩))
      walk_at "nz"
      refine wsk_seq (ws_app rfl (we_var rfl ⟨?_, ?_⟩))
      · have : ms.length = ms1.length + (ms'.length + 1) := by rw [em, List.length_append]; rfl
        rw [List.length_map]
        exact Nat.lt_of_le_of_lt (show ms1.length ≤ 400000 by omega) (by decide)
      walk_at "nz"
      obtain ⟨x2, d2, hv2, hx2, hd2⟩ := bk'.get
      refine wsk_tail ?_
      refine wsk_dgetSet (id := 0) (ip := 1) rfl rfl hv2 hx2 ?_
      refine fun G3 σ3 H3 hs3 e3 => (nxt G3 σ3 H3 _ _ ms'.length (Nat.lt_succ_self _) hs3 e3 ⟨kn, ms1 ++ [m'], ms', d2, some (.d (.int m')), rfl, by rw [em, List.append_assoc]; rfl, rfl, ?_, ?_⟩).1
      · rcases hd2 with z | ⟨m2, k2, ms3, z1, z2, z3⟩
        · exact .inl z
        · exact .inr ⟨m2, k2, ms3, z1, z2, z3.up e3⟩
      · rw [List.map_append]
        rfl

theorem ok_all_bars (T : Tx K mg)  {f : Addr} {fd : FuncData} (F : Here K mg "all_bars" s_all_bars ["slacks"] f fd) : D_all_bars_ P w K mg base := by
  refine F.df (fgP F.1 sc_all_bars (fun ds k h => ?_) fun cdv B fr s H E hg hr => ⟨_, ((pss_cons (ps_asg (pv 0) (pg_tup (n := 2) rfl (pgs_cons (pg_name (i := 1) sc_all_bars.nd rfl (.inl rfl)) (pgs_cons (pg_name (i := 2) sc_all_bars.nd rfl (.inr rfl)) pgs_nil))))
      (pss_one (ps_ret (pe_lc2 (wi1 := iEnum K (tCons (tVar 2) tNil)) (g := (gTup K 2 (gCons (gName 3) (gCons (gName 4) gNil)))) (g1 := (gTup K 2 (gCons (gName 5) (gCons (gName 6) gNil)))) (vs1 := [5, 6]) (own := [("above", 3), ("sink", 4), ("lift", 5), ("slack", 6)]) rfl sc_all_bars.nd (pi_enum (by rfl) T.n_enumerate (pa_cons (pv 1) pa_nil)) (blkOk_by (N := ["slacks", "ground", "grip", "above", "sink", "lift", "slack"]) (sc := defScope s_all_bars) (by decide +kernel)) (by decide) (fun _ _ _ _ _ => (pg_tup (n := 2) rfl (pgs_cons (pg_name (i := 3) sc_all_bars.nd rfl (Or.inl rfl) (Or.inr rfl)) (pgs_cons (pg_name (i := 4) sc_all_bars.nd rfl (Or.inl rfl) (Or.inr rfl)) pgs_nil)))) (fun _ _ _ _ _ => pts_nil) (fun _ _ _ _ _ => (pi_enum (by rfl) T.n_enumerate (pa_cons (pv 2) pa_nil))) (fun _ _ _ _ _ => (pg_tup (n := 2) rfl (pgs_cons (pg_name (i := 5) sc_all_bars.nd rfl (Or.inl rfl) (Or.inr rfl)) (pgs_cons (pg_name (i := 6) sc_all_bars.nd rfl (Or.inl rfl) (Or.inr rfl)) pgs_nil)))) (fun _ _ _ _ _ => (pts_one (PW.pt (pw_or (pt_cmpR (r := rEqU K) (op_eqU hr.units) (pv 4) pe_int (nomark _)) (pw_or1 (pt_cmpR (r := rEqU K) (op_eqU hr.units) (pv 6) pe_int (nomark _))))))) (fun _ _ _ _ _ => (pe_tup (pa_cons (pe_tup (pa_cons (pv 3) (pa_cons (pv 5) pa_nil))) (pa_cons (pv 3) (pa_cons (pv 5) pa_nil)))))))))), ?_⟩)
  · obtain ⟨a, rfl, _⟩ := h; rfl
  · intro c ds k hc h
    obtain ⟨v, rfl, ok, h⟩ := h
    have ok' : v.Ok := ok
    have p1 := ok'.1.p1
    have p24 := ok'.1.p24
    have q1 := ok'.2.p1
    have q24 := ok'.2.p24
    have at1 : ∀ {cb : Comb} {i : Nat} {x : D}, ((sl cb).map PyData.int)[i]? = some x → i < cb.p.toNat ∧ x = .int (slk cb (i : Int)) := fun {cb i x} hx => by
      obtain ⟨t, ht, rfl⟩ := ints_at hx
      unfold sl at ht
      rw [List.getElem?_map] at ht
      cases hr : (List.range cb.p.toNat)[i]? with
      | none => rw [hr] at ht; cases ht
      | some r =>
        rw [hr] at ht
        have hlt := (List.getElem?_eq_some_iff.mp hr).1
        rw [List.length_range] at hlt
        rw [List.getElem?_range hlt] at hr
        cases hr
        cases ht
        exact ⟨hlt, rfl⟩
    have l1 : (sl v.1).length = v.1.p.toNat := by have := sl_len ok'.1; omega
    have l2 : (sl v.2).length = v.2.p.toNat := by have := sl_len ok'.2; omega
    walk_at "nz"
    refine ws_seq (ws_unpN rfl (we_var rfl ⟨_, _, rfl, ?_⟩))
    walk_at "nz"
    refine ws_ret ?_
    refine we_lc2E (fun i k' acc pl' => pl' = [] ∧ acc = ((startsN v i ++ rowL v i k').map begun).map barD) ((sl v.1).map PyData.int) ((sl v.2).map PyData.int) (no_of rfl) rfl (by decide) ?_ ?_ ?_ ?_
    · refine wa_cons (we_var rfl (wa_nil ⟨rfl, rfl, rfl⟩))
    · rintro i k' x y acc pl' hx hy ⟨rfl, rfl⟩ pin
      obtain ⟨hi, rfl⟩ := at1 hx
      obtain ⟨hk, rfl⟩ := at1 hy
      have z1 := slk_zero ok'.1 (i : Int)
      have z2 := slk_zero ok'.2 (k' : Int)
      have hh : held v ((i : Int), (i : Int) - (k' : Int)) = (caught v.1 (i : Int) || caught v.2 (k' : Int)) := by
        unfold held
        show (caught v.1 (i : Int) || caught v.2 ((i : Int) - ((i : Int) - (k' : Int)))) = _
        rw [show (i : Int) - ((i : Int) - (k' : Int)) = (k' : Int) by omega]
      have sl2 := startsN_len v i
      have rl2 := rowL_len v i k'
      have sb : i * v.2.p.toNat ≤ 24 * 24 := Nat.mul_le_mul (by omega) (by omega)
      have len : (((startsN v i ++ rowL v i k').map begun).map barD).length < sizeLine := by
        rw [List.length_map, List.length_map, List.length_append]
        exact Nat.lt_of_le_of_lt (show _ ≤ 1000 by omega) (by decide)
      have yes : held v ((i : Int), (i : Int) - (k' : Int)) = true → ((startsN v i ++ rowL v i k').map begun).map barD ++ [.tuple [.tuple [.int (i : Int), .int (k' : Int)], .int (i : Int), .int (k' : Int)]] = ((startsN v i ++ rowL v i (k' + 1)).map begun).map barD := fun q => by
        have e : startsN v i ++ rowL v i (k' + 1) = (startsN v i ++ rowL v i k') ++ [((i : Int), (k' : Int))] := by rw [rowL_succ, if_pos q, List.append_assoc]
        rw [e]
        generalize startsN v i ++ rowL v i k' = X
        rw [List.map_append, List.map_append]
        show _ ++ [_] = _ ++ [barD (begun ((i : Int), (k' : Int)))]
        rw [barD_begun]
      obtain ⟨i9, hi9⟩ : ∃ i9 : Int, (i : Int) = i9 := ⟨_, rfl⟩
      obtain ⟨k9, hk9⟩ : ∃ k9 : Int, (k' : Int) = k9 := ⟨_, rfl⟩
      rw [hi9] at z1 hh yes
      rw [hk9] at z2 hh yes
      rw [hi9, hk9]
      walk_at "nz"
      refine wt_or (wt_B ?_)
      walk_at "go"
      rw [z1]
      cases c1 : caught v.1 i9 with
      | true =>
        rw [c1] at hh
        refine iteV rfl ?_
        refine iteV rfl ?_
        walk_at "go"
        exact ⟨len, rfl, yes (by rw [hh]; rfl)⟩
      | false =>
        rw [c1] at hh
        refine iteN rfl ?_
        refine wt_B ?_
        walk_at "go"
        rw [z2]
        cases c2 : caught v.2 k9 with
        | true =>
          rw [c2] at hh
          refine iteV rfl ?_
          walk_at "go"
          exact ⟨len, rfl, yes (by rw [hh]; rfl)⟩
        | false =>
          rw [c2] at hh
          refine iteN rfl ?_
          refine ⟨rfl, ?_⟩
          rw [rowL_succ, if_neg, List.append_nil]
          rw [hi9, hk9, hh]
          simp
    · rintro i acc pl' ⟨rfl, rfl⟩
      rw [List.length_map, l2]
      refine ⟨rfl, ?_⟩
      rw [startsN_succ]
      show _ = ((startsN v i ++ rowL v i v.2.p.toNat ++ rowL v (i + 1) 0).map begun).map barD
      rw [show rowL v (i + 1) 0 = [] by rfl, List.append_nil]
    · rintro acc pl' ⟨rfl, rfl⟩
      rw [List.length_map, l1, show rowL v v.1.p.toNat 0 = [] by rfl, List.append_nil]
      exact h

theorem ok__law_jar (T : Tx K mg) {f : Addr} {fd : FuncData} (F : Here K mg "_law_jar" s__law_jar ["script", "at"] f fd) : D__law_jar_ P w K mg base := by
  refine F.df (fgMk F.1 sc__law_jar rfl fun cdv B fr s H E hg hr => ⟨_, ((pss_cons (ps_set (i := 2) sc__law_jar.nd rfl (.inl rfl) (pe_ifExp (pt_cmpR op_lt (pv 1) (pe_callB (r := rLenQ K) call_len_seq (by rfl) T.n_len (by decide +kernel) (pa_cons (pv 0) pa_nil)) (nomark _)) (pe_ix (r := rIx K) ix_seq (pv 0) (pv 1) (fun _ _ => rfl)) pe_int))
      (pss_one (ps_ret (pe_lst (pa_cons (pe_callB (call_max2 rfl) (by rfl) T.n_max (by decide +kernel) (pa_cons pe_int (pa_cons (pe_op op_addU (pe_op op_sub (pe_callB call_abs (by rfl) T.n_abs (by decide +kernel) (pa_cons (pv 2) pa_nil)) (pe_op op_powW pe_int pe_int)) pe_int) pa_nil))) (pa_cons (pe_op op_addU (pe_op op_mod (pe_callTy call_int1 (by rfl) T.n_int (by decide +kernel) (pa_cons (pv 2) pa_nil)) (pe_op op_addU (pe_op op_powW pe_int pe_int) pe_int)) (pe_op op_mulU pe_int (pe_op op_addU (pv 1) pe_int))) (pa_cons pe_int pa_nil)))))))), ?_⟩)
  intro c a ns i k hc hS h
  obtain ⟨i0, i1, h⟩ := h
  have fin : ∀ a b : Int, 0 ≤ a → 0 ≤ b → b < 2 ^ 100 → k [.int a, .int b, .int 0] := fun a b h1 h2 h3 => h _ ⟨a, b, 0, rfl, h1, h2, h3, Int.le_refl _, Int.le_refl _⟩
  walk_at "go"
  walk_at "nz"
  refine ite_we (fun x => ∃ cell : Int, x = .int cell) (fun hb => ?_) (fun hb => ?_) ?_
  · have hlt : i.toNat < ns.length := by have := of_decide_eq_true hb; omega
    walk_at "go"
    refine ⟨ns[i.toNat], ?_, _, rfl, ⟨_, rfl⟩, rfl⟩
    have z := atI_nat (List.getElem?_eq_getElem hlt)
    rw [Int.toNat_of_nonneg i0] at z
    exact z
  · walk_at "go"
    exact ⟨_, rfl, ⟨_, rfl⟩, rfl⟩
  rintro _ ⟨cell, rfl⟩
  walk_at "go"
  refine we_lstO ?_
  walk_at "go"
  refine os_pow (poww (by decide) (by decide) (by decide +kernel) (by decide +kernel)) ?_
  walk_at "go"
  refine os_pow (poww (by decide) (by decide) (by decide +kernel) (by decide +kernel)) ?_
  walk_at "go"
  have N0 : (0 : Int) < 10 ^ (27 : Int).toNat + 103 := by decide +kernel
  have N1 : (10 : Int) ^ (27 : Int).toNat + 103 < 2 ^ 91 := by decide +kernel
  generalize (10 : Int) ^ (27 : Int).toNat + 103 = N at N0 N1
  refine os_mod N0 ?_
  walk_at "go"
  refine os_mulI (mulw 20 20 (by decide) (by decide) (by omega) (by omega) (by decide) (by decide) (by decide)) ?_
  walk_at "go"
  have y0 := Int.emod_nonneg cell (show N ≠ 0 by omega)
  have y1 := Int.emod_lt_of_pos cell N0
  exact fin _ _ (by omega) (by omega) (by omega)

theorem ok__law_pick (T : Tx K mg)  {f : Addr} {fd : FuncData} (F : Here K mg "_law_pick" s__law_pick ["jar", "bound"] f fd) : D__law_pick_ P w K mg base := by
  refine F.df (fgO F.1 sc__law_pick (fun pl ds k h => ?_) fun cdv B fr s H E hg hr => ⟨_, ((pss_cons (ps_if (pt_cmpR op_gt (pe_ix (r := rIx K) ix_seq (pv 0) pe_int (fun _ _ => rfl)) pe_int (nomark _)) (pss_cons (ps_set (i := 2) sc__law_pick.nd rfl (.inl rfl) (pe_op op_mod (pe_callTy call_int1 (by rfl) T.n_int (by decide +kernel) (pa_cons (pe_ix (r := rIx K) ix_seq (pv 0) pe_int (fun _ _ => rfl)) pa_nil)) (pv 1)))
      (pss_cons (ps_asg (pe_op op_fdivW (pe_ix (r := rIx K) ix_seq (pv 0) pe_int (fun _ _ => rfl)) (pv 1)) (pg_sub (pv 0) pe_int set_list))
      (pss_one (ps_ret (pv 2))))) pss_nil)
      (pss_cons (ps_asg (pe_op op_addU (pe_ix (r := rIx K) ix_seq (pv 0) pe_int (fun _ _ => rfl)) pe_int) (pg_sub (pv 0) pe_int set_list))
      (pss_cons (ps_set (i := 3) sc__law_pick.nd rfl (.inl rfl) (pe_op op_mod (pe_callTy call_int1 (by rfl) T.n_int (by decide +kernel) (pa_cons (pe_op op_powW (pe_op op_addU (pe_ix (r := rIx K) ix_seq (pv 0) pe_int (fun _ _ => rfl)) (pe_op op_mulU pe_int (pe_ix (r := rIx K) ix_seq (pv 0) pe_int (fun _ _ => rfl)))) pe_int) pa_nil)) (pe_op op_addU (pe_op op_powW pe_int pe_int) pe_int)))
      (pss_cons (ps_set (i := 3) sc__law_pick.nd rfl (.inl rfl) (pe_op op_mod (pe_callTy call_int1 (by rfl) T.n_int (by decide +kernel) (pa_cons (pe_op op_powW (pe_op op_addU (pv 3) (pe_op op_mulU pe_int (pe_ix (r := rIx K) ix_seq (pv 0) pe_int (fun _ _ => rfl)))) pe_int) pa_nil)) (pe_op op_addU (pe_op op_powW pe_int pe_int) pe_int)))
      (pss_one (ps_ret (pe_op op_mod (pe_callTy call_int1 (by rfl) T.n_int (by decide +kernel) (pa_cons (pe_op op_fdivW (pv 3) pe_int) pa_nil)) (pv 1))))))))), ?_⟩)
  · obtain ⟨a, n, rfl, _⟩ := h; rfl
  · intro c p pl ds k hp h
    obtain ⟨top, n, rfl, ⟨t0, t1⟩, hP, hn, h⟩ := h
    obtain ⟨a, b, e, rfl, a0, b0, b1, e0, e1⟩ := hP
    have pw : (2 : Int) ^ 100 < (2 : Int) ^ 2000 := by decide +kernel
    walk_at "go"
    refine ⟨_, atI_nat (j := 0) rfl, ?_⟩
    walk_at "go"
    refine ite2 (fun hb => ?_) (fun hb => ?_)
    · walk_at "go"
      refine ⟨_, atI_nat (j := 0) rfl, ?_⟩
      walk_at "go"
      refine os_mod t0 ?_
      walk_at "go"
      refine ⟨_, atI_nat (j := 0) rfl, ?_⟩
      walk_at "go"
      refine os_fdiv (divw a t0 t1) ?_
      walk_at "go"
      refine ⟨0, rfl, ?_⟩
      walk_at "go"
      exact h _ _ ⟨_, rfl, Int.emod_nonneg _ (by omega), Int.emod_lt_of_pos _ t0⟩ ⟨a / top, b, e, rfl, Int.ediv_nonneg a0 (by omega), b0, b1, e0, by show e ≤ ((n + 1 : Nat) : Int); omega⟩
    · walk_at "go"
      refine ⟨_, atI_nat (j := 2) rfl, ?_⟩
      walk_at "go"
      refine ⟨2, rfl, ?_⟩
      walk_at "go"
      refine ⟨_, atI_nat (j := 1) rfl, ?_⟩
      walk_at "go"
      refine ⟨_, atI_nat (j := 2) rfl, ?_⟩
      walk_at "go"
      refine os_mulI (mulw 20 60 (by decide) (by decide) (by omega) (by omega) (by decide) (by decide) (by decide)) ?_
      walk_at "go"
      have x0 : 0 ≤ b + 611953 * (e + 1) := by omega
      have x1 : b + 611953 * (e + 1) < 2 ^ 200 := by omega
      generalize b + 611953 * (e + 1) = x at x0 x1
      refine os_pow (poww (by decide) (by decide) (by have := pow200; omega) (by have := pow200; omega)) ?_
      walk_at "go"
      refine os_pow (poww (by decide) (by decide) (by decide +kernel) (by decide +kernel)) ?_
      walk_at "go"
      have M0 : (0 : Int) < 10 ^ (39 : Int).toNat + 3 := by decide +kernel
      have M1 : (10 : Int) ^ (39 : Int).toNat + 3 < 2 ^ 150 := by decide +kernel
      generalize (10 : Int) ^ (39 : Int).toNat + 3 = M at M0 M1
      refine os_mod M0 ?_
      walk_at "go"
      have y0 := Int.emod_nonneg (x ^ (3 : Int).toNat) (show M ≠ 0 by omega)
      have y1 := Int.emod_lt_of_pos (x ^ (3 : Int).toNat) M0
      generalize x ^ (3 : Int).toNat % M = y at y0 y1
      refine ⟨_, atI_nat (j := 2) rfl, ?_⟩
      walk_at "go"
      refine os_mulI (mulw 30 60 (by decide) (by decide) (by omega) (by omega) (by decide) (by decide) (by decide)) ?_
      walk_at "go"
      have z0 : 0 ≤ y + 86028121 * (e + 1) := by omega
      have z1 : y + 86028121 * (e + 1) < 2 ^ 200 := by omega
      generalize y + 86028121 * (e + 1) = z at z0 z1
      refine os_pow (poww (by decide) (by decide) (by have := pow200; omega) (by have := pow200; omega)) ?_
      walk_at "go"
      refine os_pow (poww (by decide) (by decide) (by decide +kernel) (by decide +kernel)) ?_
      walk_at "go"
      have N0 : (0 : Int) < 10 ^ (42 : Int).toNat + 63 := by decide +kernel
      generalize (10 : Int) ^ (42 : Int).toNat + 63 = N at N0
      refine os_mod N0 ?_
      walk_at "go"
      refine os_fdiv (divw _ (by decide) (by decide +kernel)) ?_
      walk_at "go"
      refine os_mod t0 ?_
      walk_at "go"
      exact h _ _ ⟨_, rfl, Int.emod_nonneg _ (by omega), Int.emod_lt_of_pos _ t0⟩ ⟨a, b, e + 1, rfl, a0, b0, b1, by omega, by show e + 1 ≤ ((n + 1 : Nat) : Int); omega⟩

theorem ok__law_under (T : Tx K mg)  {f : Addr} {fd : FuncData} (F : Here K mg "_law_under" s__law_under ["comb_here", "spot"] f fd) : D__law_under_ P w K mg base := by
  refine F.df (fgP F.1 sc__law_under (fun ds k h => ?_) fun cdv B fr s H E hg hr => ⟨_, ((pss_cons (ps_set (i := 2) sc__law_under.nd rfl (.inr rfl) (pe_op op_mod (pe_callTy call_int1 (by rfl) T.n_int (by decide +kernel) (pa_cons (pv 1) pa_nil)) (pe_ix (r := rIx K) ix_seq (pv 0) pe_int (fun _ _ => rfl))))
      (pss_cons (ps_setLc (i := 3) (own := [("tooth", 4)]) rfl sc__law_under.nd rfl rfl (sw_true rfl rfl rfl (by decide +kernel)) (pi_list (pe_ix (r := rIx K) ix_seq (pv 0) pe_int (fun _ _ => rfl))) (blkOk_by (N := ["comb_here", "spot", "rest", "below", "tooth"]) (sc := defScope s__law_under) (by decide +kernel)) (fun _ _ _ _ _ => (pg_name (i := 4) sc__law_under.nd rfl (Or.inl rfl) (Or.inr rfl))) (fun _ _ _ _ _ => (pts_one (pt_cmpR op_le (pv 4) (pv 2) (nomark _)))) (fun _ _ _ _ _ => (pv 4)))
      (pss_one (ps_ret (pe_op op_addU (pe_op op_sub (pv 1) (pv 2)) (pe_ifExp (pt_cmpR (r := rNeU K) (op_neU hr.units) (pv 3) (pe_lst pa_nil) (nomark _)) (pe_ix (r := rIx K) ix_seq (pv 3) (pe_un un_neg pe_int) (fun _ _ => rfl)) (pe_op op_sub (pe_ix (r := rIx K) ix_seq (pe_ix (r := rIx K) ix_seq (pv 0) pe_int (fun _ _ => rfl)) (pe_un un_neg pe_int) (fun _ _ => rfl)) (pe_ix (r := rIx K) ix_seq (pv 0) pe_int (fun _ _ => rfl)))))))))), ?_⟩)
  · obtain ⟨a, rfl, _⟩ := h; rfl
  · intro c ds k hc h
    obtain ⟨⟨cb, n⟩, rfl, ok, h⟩ := h
    walk_at "go"
    have hp : 0 < cb.p := by have := Comb.Ok.p1 (c := cb) ok; omega
    refine os_mod hp ?_
    walk_at "go"
    refine we_lcL (fun i acc _ => acc = ((cb.ts.take i).filter fun t => decide (t ≤ n % cb.p)).map PyData.int) (cb.ts.map PyData.int) (fun xs q => by cases q) ?_ ?_ ?_
    · walk_at "go"
      rfl
    · intro i x acc pl' hx hJ pin
      obtain ⟨t, ht, rfl⟩ := ints_at hx
      subst hJ
      walk_at "go"
      refine ite2 (fun hb => ?_) (fun hb => ?_)
      · walk_at "go"
        refine ⟨by rw [List.length_map]; exact ts_small ok _ _, ?_⟩
        rw [tfil_yes ht hb, List.map_append]
        rfl
      · rw [tfil_no ht (by simpa using hb)]
    · intro acc pl' hJ
      rw [List.length_map, List.take_length] at hJ
      subst hJ
      have tok : okD 20 (.list ((cb.ts.filter fun t => decide (t ≤ n % cb.p)).map PyData.int)) := okD_ints fun t ht => by
        have h1 := Comb.Ok.low (c := cb) ok t (List.mem_filter.mp ht).1
        have h2 := Comb.Ok.high (c := cb) ok t (List.mem_filter.mp ht).1
        have h3 := Comb.Ok.p24 (c := cb) ok
        exact small24 (by omega) (by omega)
      have hk : k (.int (flo cb n)) := h
      unfold flo lowT at hk
      generalize List.filter (fun t => decide (t ≤ n % cb.p)) cb.ts = L at hk tok ⊢
      walk_at "go"
      refine we_lst ?_
      walk_at "go"
      refine os_neNil tok ?_
      walk_at "nz"
      cases L with
      | nil =>
        rw [if_pos rfl] at hk
        refine iteN rfl ?_
        walk_at "go"
        refine os_ix (ix_last (Comb.Ok.ne (c := cb) ok)) ?_
        walk_at "go"
        rw [show n - n % cb.p + (cb.ts.getLastD 0 - cb.p) = n - n % cb.p - cb.p + cb.ts.getLastD 0 by omega]
        exact hk
      | cons a r =>
        rw [if_neg (List.cons_ne_nil a r)] at hk
        refine iteV rfl ?_
        walk_at "go"
        refine os_ix (ix_last (List.cons_ne_nil a r)) ?_
        walk_at "go"
        exact hk

theorem ok__law_shifted (T : Tx K mg)  {f : Addr} {fd : FuncData} (F : Here K mg "_law_shifted" s__law_shifted ["one", "by"] f fd) : D__law_shifted_ P w K mg base := by
  refine F.df (fgP F.1 sc__law_shifted (fun ds k h => ?_) fun cdv B fr s H E hg hr => ⟨_, ((pss_one (ps_ret (pe_tup (pa_cons (pe_ix (r := rIx K) ix_seq (pv 0) pe_int (fun _ _ => rfl)) (pa_cons (pe_callB (r := rSortedI K) cr_sortedI (by rfl) T.n_sorted (by decide +kernel) (pa_cons (pe_lc (own := [("tooth", 2)]) rfl sc__law_shifted.nd (pi_list (pe_ix (r := rIx K) ix_seq (pv 0) pe_int (fun _ _ => rfl))) (blkOk_by (N := ["one", "by", "tooth"]) (sc := defScope s__law_shifted) (by decide +kernel)) (fun _ _ _ _ _ => (pg_name (i := 2) sc__law_shifted.nd rfl (Or.inl rfl) (Or.inr rfl))) (fun _ _ _ _ _ => pts_nil) (fun _ _ _ _ _ => (pe_op op_mod (pe_callTy call_int1 (by rfl) T.n_int (by decide +kernel) (pa_cons (pe_op op_addU (pv 2) (pv 1)) pa_nil)) (pe_ix (r := rIx K) ix_seq (pv 0) pe_int (fun _ _ => rfl))))) pa_nil)) pa_nil)))))), ?_⟩)
  · obtain ⟨a, rfl, _⟩ := h; rfl
  · intro c ds k hc h
    obtain ⟨⟨cb, b⟩, rfl, ok, h⟩ := h
    have ok' : cb.Ok := ok
    have p1 : 0 < cb.p := by have := Comb.Ok.p1 ok'; omega
    have p24 := ok'.p24
    have l1 := sorted_len ok'.up ok'.low ok'.high
    walk_at "nz"
    refine ws_ret (we_tup (wa_cons (we_op (we_var rfl (we_int (os_t0 ?_))))))
    refine wa_cons (we_cb (wa_cons ?_))
    refine we_lcM cb.ts PyData.int (fun t => PyData.int ((t - -b) % cb.p)) (Nat.lt_of_le_of_lt (show _ ≤ 100 by omega) (by decide)) (no_of rfl _) ?_ ?_
    · refine we_op (we_var rfl (we_int (os_t1 ?_)))
      refine ⟨rfl, ?_⟩
      rw [show (cb.ts.map fun t => PyData.int ((t - -b) % cb.p)) = (cb.ts.map fun t => (t - -b) % cb.p).map PyData.int by rw [List.map_map]; rfl]
      refine wa_nil (cb_sortedI fun S pm up => ?_)
      obtain ⟨okS, catS⟩ := shift_ok ok' (-b) pm up
      refine wa_nil ⟨by show 2 ≤ sizeLine; decide, ?_⟩
      exact h _ ⟨Comb.mk cb.p S, rfl, okS, rfl, fun y => by rw [catS]; congr 1; show y + b + -b = y; omega⟩
    · intro p' t ht pin
      walk_at "go"
      refine os_mod p1 ?_
      rw [show t - -b = t + b by omega]
      exact ⟨rfl, rfl⟩

theorem ok__law_times (T : Tx K mg)  {f : Addr} {fd : FuncData} (F : Here K mg "_law_times" s__law_times ["one", "many"] f fd) : D__law_times_ P w K mg base := by
  refine F.df (fgP F.1 sc__law_times (fun ds k h => ?_) fun cdv B fr s H E hg hr => ⟨_, ((pss_one (ps_ret (pe_tup (pa_cons (pe_op op_mulU (pv 1) (pe_ix (r := rIx K) ix_seq (pv 0) pe_int (fun _ _ => rfl))) (pa_cons (pe_lc (own := [("tooth", 2)]) rfl sc__law_times.nd (pi_list (pe_ix (r := rIx K) ix_seq (pv 0) pe_int (fun _ _ => rfl))) (blkOk_by (N := ["one", "many", "tooth"]) (sc := defScope s__law_times) (by decide +kernel)) (fun _ _ _ _ _ => (pg_name (i := 2) sc__law_times.nd rfl (Or.inl rfl) (Or.inr rfl))) (fun _ _ _ _ _ => pts_nil) (fun _ _ _ _ _ => (pe_op op_mulU (pv 1) (pv 2)))) pa_nil)))))), ?_⟩)
  · obtain ⟨a, rfl, _⟩ := h; rfl
  · intro c ds k hc h
    obtain ⟨⟨cb, n⟩, rfl, ⟨ok, n1, n3⟩, h⟩ := h
    have ok' : cb.Ok := ok
    have n1' : 1 ≤ n := n1
    have n3' : n ≤ 3 := n3
    have p1 := Comb.Ok.p1 ok'
    have p24 := ok'.p24
    have l1 := sorted_len ok'.up ok'.low ok'.high
    have fin : k (tmC n cb).d := h
    walk_at "nz"
    refine ws_ret (we_tup (wa_cons (we_op (we_var rfl (we_op (we_var rfl (we_int (os_t0 ?_))))))))
    refine os_mulI (mulw 20 20 (by omega) (by omega) (by omega) (by omega) (by decide) (by decide) (by decide)) ?_
    refine wa_cons ?_
    refine we_lcM cb.ts PyData.int (fun t => PyData.int (n * t)) (Nat.lt_of_le_of_lt (show _ ≤ 100 by omega) (by decide)) (no_of rfl _) ?_ ?_
    · refine we_op (we_var rfl (we_int (os_t1 ?_)))
      refine ⟨rfl, ?_⟩
      rw [show (cb.ts.map fun t => PyData.int (n * t)) = (cb.ts.map fun t => n * t).map PyData.int by rw [List.map_map]; rfl]
      refine wa_nil ⟨by show 2 ≤ sizeLine; decide, ?_⟩
      exact fin
    · intro p' t ht pin
      have t0 := ok'.low t ht
      have t1 := ok'.high t ht
      refine we_op (we_var rfl (we_var rfl ?_))
      refine os_mulI (mulw 20 20 (by omega) (by omega) (by omega) (by omega) (by decide) (by decide) (by decide)) ?_
      exact ⟨rfl, rfl⟩

theorem ok_is_whole_pair (T : Tx K mg) (D_is_pair : D_is_pair_ P w K mg base) (D_is_whole : D_is_whole_ P w K mg base) {f : Addr} {fd : FuncData} (F : Here K mg "is_whole_pair" s_is_whole_pair ["value"] f fd) : D_is_whole_pair_ P w K mg base := by
  refine F.df (fgP F.1 sc_is_whole_pair (fun ds k h => ?_) fun cdv B fr s H E hg hr => ⟨_, ((pss_one (ps_ret (pe_and (pe_callD D_is_pair hg (hr.mono (by decide)) (by rfl) (pa_cons (pv 0) pa_nil)) (pe_and (pe_callD D_is_whole hg (hr.mono (by decide)) (by rfl) (pa_cons (pe_ix (r := rIx K) ix_seq (pv 0) pe_int (fun _ _ => rfl)) pa_nil)) (pe_one (pe_callD D_is_whole hg (hr.mono (by decide)) (by rfl) (pa_cons (pe_ix (r := rIx K) ix_seq (pv 0) pe_int (fun _ _ => rfl)) pa_nil)))))))), ?_⟩)
  · obtain ⟨a, rfl, _⟩ := h; rfl
  · intro c ds k hc h
    obtain ⟨d, rfl, _, h⟩ := h
    walk_at "go"
    refine we_det d ?_
    walk_at "go"
    by_cases hp : isPair d = true
    · match d, hp, h with
      | .tuple [a, b], hp, h =>
        walk_at "go"
        refine we_det a ?_
        walk_at "go"
        cases a with
        | int i =>
          walk_at "go"
          refine we_det b ?_
          walk_at "go"
          cases b <;> exact h
        | _ => walk_at "go"; exact h
    · have e : isPair d = false := by simpa using hp
      have e2 : isWholePair d = false := by
        unfold isPair at e
        unfold isWholePair
        split at e
        · cases e
        · rename_i z
          split
          · rename_i a b
            exact absurd rfl (z (.int a) (.int b))
          · rfl
      rw [e]
      walk_at "go"
      have h' : k (.bool (isWholePair d)) := h
      rw [e2] at h'
      exact h'

theorem ok_check_whole (T : Tx K mg) (D_is_whole : D_is_whole_ P w K mg base) {f : Addr} {fd : FuncData} (F : Here K mg "check_whole" s_check_whole ["value", "name"] f fd) : D_check_whole_ P w K mg base := by
  refine F.df (fgP F.1 sc_check_whole (fun ds k h => ?_) fun cdv B fr s H E hg hr => ⟨_, ((pss_one (ps_if (pt_not (pt_val (pe_callD D_is_whole hg (hr.mono (by decide)) (by rfl) (pa_cons (pv 0) pa_nil)))) (pss_one ps_never) pss_nil))), ?_⟩)
  · obtain ⟨a, rfl, _⟩ := h; rfl
  · intro c ds k hc h
    obtain ⟨⟨x, y⟩, rfl, _, h⟩ := h
    walk_at "go"
    refine we_det (.int x) ?_
    walk_at "go"
    exact h

theorem ok_is_pitch (T : Tx K mg) (D_is_whole : D_is_whole_ P w K mg base) {f : Addr} {fd : FuncData} (F : Here K mg "is_pitch" s_is_pitch ["value"] f fd) : D_is_pitch_ P w K mg base := by
  refine F.df (fgP F.1 sc_is_pitch (fun ds k h => ?_) fun cdv B fr s H E hg hr => ⟨_, ((pss_one (ps_ret (pe_and (pe_callD D_is_whole hg (hr.mono (by decide)) (by rfl) (pa_cons (pv 0) pa_nil)) (pe_one (pe_chain op_le op_le pe_int (pv 0) (pe_glob (v := .int 24) (by rfl) T.c_MOST_PITCH.choose_spec ⟨_, rfl⟩))))))), ?_⟩)
  · obtain ⟨a, rfl, _⟩ := h; rfl
  · intro c ds k hc h
    obtain ⟨d, rfl, _, h⟩ := h
    walk_at "go"
    refine we_det d ?_
    walk_at "go"
    cases d with
    | int i =>
      walk_at "go"
      refine we_chain (a := 1) (b := i) (c' := 24) ?_ ?_ ?_ ?_
      · walk_at "go"; rfl
      · walk_at "go"; rfl
      · walk_at "go"; rfl
      · have e : (decide ((1 : Int) ≤ i) && decide (i ≤ 24)) = isPitch (.int i) := by
          unfold isPitch
          by_cases h1 : (1 : Int) ≤ i <;> by_cases h2 : i ≤ 24 <;> simp [h1, h2]
        rw [e]
        exact h
    | _ => walk_at "go"; exact h

theorem ok_are_teeth (T : Tx K mg) (D_is_whole : D_is_whole_ P w K mg base) {f : Addr} {fd : FuncData} (F : Here K mg "are_teeth" s_are_teeth ["value", "pitch"] f fd) : D_are_teeth_ P w K mg base := by
  refine F.df (fgP F.1 sc_are_teeth (fun ds k h => ?_) fun cdv B fr s H E hg hr => ⟨_, ((pss_cons (ps_if (PW.pt (pw_or (pt_not (pt_val (pe_callB (r := rIsi K) call_isi (by rfl) T.n_isinstance (by decide +kernel) (pa_cons (pv 0) (pa_cons (pe_bltn (v := .ty "list") (u := .type "list") (by rfl) T.n_list (by decide +kernel) rfl) pa_nil))))) (pw_or1 (pt_cmpR (r := rEqU K) (op_eqU hr.units) (pe_callB (r := rLenQ K) call_len_seq (by rfl) T.n_len (by decide +kernel) (pa_cons (pv 0) pa_nil)) pe_int (nomark _))))) (pss_one (ps_ret pe_bl)) pss_nil)
      (pss_cons (ps_if (pt_not (pt_val (pe_callB (r := rAll K) (cr_all rfl) (by rfl) T.n_all (by decide +kernel) (pa_cons (pe_lc (own := [("tooth", 4)]) rfl sc_are_teeth.nd (pi_list (pv 0)) (blkOk_by (N := ["value", "pitch", "low", "high", "tooth"]) (sc := defScope s_are_teeth) (by decide +kernel)) (fun _ _ _ _ _ => (pg_name (i := 4) sc_are_teeth.nd rfl (Or.inl rfl) (Or.inr rfl))) (fun _ _ _ _ _ => pts_nil) (fun _ _ _ _ _ => (pe_callD D_is_whole hg (hr.mono (by decide)) (by rfl) (pa_cons (pv 4) pa_nil)))) pa_nil)))) (pss_one (ps_ret pe_bl)) pss_nil)
      (pss_cons (ps_if (PW.pt (pw_or (pt_cmpR op_lt (pe_ix (r := rIx K) ix_seq (pv 0) pe_int (fun _ _ => rfl)) pe_int (nomark _)) (pw_or1 (pt_cmpR op_ge (pe_ix (r := rIx K) ix_seq (pv 0) (pe_un un_neg pe_int) (fun _ _ => rfl)) (pv 1) (nomark _))))) (pss_one (ps_ret pe_bl)) pss_nil)
      (pss_one (ps_ret (pe_callB (r := rAll K) (cr_all rfl) (by rfl) T.n_all (by decide +kernel) (pa_cons (pe_lc (g := (gTup K 2 (gCons (gName 2) (gCons (gName 3) gNil)))) (own := [("low", 2), ("high", 3)]) rfl sc_are_teeth.nd (pi_zip (by rfl) T.n_zip (pa_cons (pv 0) (pa_cons (pe_slice (r := rSlL K) sl_list (pv 0) (po_some pe_int) po_none) pa_nil))) (blkOk_by (N := ["value", "pitch", "low", "high", "tooth"]) (sc := defScope s_are_teeth) (by decide +kernel)) (fun _ _ _ _ _ => (pg_tup (n := 2) rfl (pgs_cons (pg_name (i := 2) sc_are_teeth.nd rfl (Or.inl rfl) (Or.inr rfl)) (pgs_cons (pg_name (i := 3) sc_are_teeth.nd rfl (Or.inl rfl) (Or.inr rfl)) pgs_nil)))) (fun _ _ _ _ _ => pts_nil) (fun _ _ _ _ _ => (pe_cmpR op_lt (pv 2) (pv 3) (nomark _)))) pa_nil)))))))), ?_⟩)
  · obtain ⟨a, rfl, _⟩ := h; rfl
  · intro c ds k hc h
    obtain ⟨cb, rfl, ok, h⟩ := h
    walk_at "go"
    have hne := Comb.Ok.ne ok
    have hlen : decide (((cb.ts.map PyData.int).length : Int) = 0) = false := decide_eq_false (by
      rw [List.length_map]
      have := List.length_pos_iff.mpr hne
      omega)
    rw [hlen]
    walk_at "go"
    refine we_lcL (fun i acc _ => acc = (List.replicate i true).map PyData.bool ∧ i ≤ cb.ts.length) (cb.ts.map PyData.int) (fun xs q => by cases q) ?_ ?_ ?_
    · walk_at "go"
      exact Nat.zero_le _
    · intro i x acc pl' hx hJ pin
      obtain ⟨t, ht, rfl⟩ := ints_at hx
      obtain ⟨rfl, hi⟩ := hJ
      have hlt := (List.getElem?_eq_some_iff.mp ht).1
      walk_at "go"
      refine we_det (.int t) ?_
      walk_at "go"
      refine ⟨?_, ?_, hlt⟩
      · rw [List.length_map, List.length_replicate]
        exact Nat.lt_of_le_of_lt (Nat.le_trans hi ok.len) (by decide)
      · rw [List.replicate_succ', List.map_append]
        rfl
    · intro acc pl' hJ
      obtain ⟨rfl, _⟩ := hJ
      walk_at "go"
      refine cb_all ?_
      have e : (List.replicate (cb.ts.map PyData.int).length true).all id = true := by simp
      rw [e]
      walk_at "go"
      obtain ⟨t0, r0, ht0⟩ : ∃ t r, cb.ts = t :: r := by
        cases hq : cb.ts with
        | nil => exact absurd hq hne
        | cons a r => exact ⟨a, r, rfl⟩
      refine os_ln (n := 0) (x := .int t0) (by rw [ht0]; rfl) ?_
      walk_at "go"
      have e0 : decide (t0 < 0) = false := decide_eq_false (by have := ok.low t0 (by rw [ht0]; exact List.mem_cons_self); omega)
      rw [e0]
      walk_at "go"
      refine os_ix (ix_last hne) ?_
      walk_at "go"
      have e1 : decide (cb.p ≤ cb.ts.getLastD 0) = false := decide_eq_false (by have := ok.high _ (last_mem hne); omega)
      rw [e1]
      walk_at "go"
      refine we_lcZ (fun i acc _ => acc = (List.replicate i true).map PyData.bool ∧ i ≤ cb.ts.length) (cb.ts.map PyData.int) (cb.ts.tail.map PyData.int) (by rw [List.length_map, List.length_map, List.length_tail]; omega) (fun xs => ⟨fun q => (by cases q), fun q => (by cases q)⟩) ?_ ?_ ?_
      · walk_at "go"
        refine we_slice ?_
        walk_at "go"
        refine ⟨_, rfl, ?_⟩
        refine wo_some ?_
        walk_at "go"
        refine wo_none ?_
        walk_at "go"
        refine ⟨?_, rfl, Nat.zero_le _⟩
        rw [cut_tail]
      · intro i x y acc pl' hx hy hJ pin
        obtain ⟨tx, htx, rfl⟩ := ints_at hx
        obtain ⟨ty, hty, rfl⟩ := ints_at hy
        obtain ⟨rfl, hi⟩ := hJ
        have hlt := (List.getElem?_eq_some_iff.mp htx).1
        walk_at "go"
        have e2 : decide (tx < ty) = true := decide_eq_true (asc_next ok.up htx (by rw [← List.drop_one, List.getElem?_drop, Nat.add_comm] at hty; exact hty))
        refine ⟨?_, ?_, hlt⟩
        · rw [List.length_map, List.length_replicate]
          exact Nat.lt_of_le_of_lt (Nat.le_trans hi ok.len) (by decide)
        · rw [List.replicate_succ', List.map_append, e2]
          rfl
      · intro acc pl' hJ
        obtain ⟨rfl, _⟩ := hJ
        walk_at "go"
        refine cb_all ?_
        have e3 : (List.replicate (cb.ts.tail.map PyData.int).length true).all id = true := by simp
        rw [e3]
        exact h

theorem ok_repeated_teeth (T : Tx K mg) (D_teeth_under : D_teeth_under_ P w K mg base) {f : Addr} {fd : FuncData} (F : Here K mg "repeated_teeth" s_repeated_teeth ["teeth", "part", "pitch"] f fd) : D_repeated_teeth_ P w K mg base := by
  refine F.df (fgP F.1 sc_repeated_teeth (fun ds k h => ?_) fun cdv B fr s H E hg hr => ⟨_, ((pss_cons (ps_set (i := 3) sc_repeated_teeth.nd rfl (.inr rfl) (pe_callD D_teeth_under hg (hr.mono (by decide)) (by rfl) (pa_cons (pv 0) (pa_cons (pv 1) pa_nil))))
      (pss_one (ps_ret (pe_lc2 (wi1 := iList K (tVar 3)) (g := (gName 4)) (g1 := (gName 5)) (vs1 := [5]) (own := [("start", 4), ("tooth", 5)]) rfl sc_repeated_teeth.nd (pi_range3 (by rfl) T.n_range (pa_cons pe_int (pa_cons (pv 2) (pa_cons (pv 1) pa_nil)))) (blkOk_by (N := ["teeth", "part", "pitch", "first", "start", "tooth"]) (sc := defScope s_repeated_teeth) (by decide +kernel)) (by decide) (fun _ _ _ _ _ => (pg_name (i := 4) sc_repeated_teeth.nd rfl (Or.inl rfl) (Or.inr rfl))) (fun _ _ _ _ _ => pts_nil) (fun _ _ _ _ _ => (pi_list (pv 3))) (fun _ _ _ _ _ => (pg_name (i := 5) sc_repeated_teeth.nd rfl (Or.inl rfl) (Or.inr rfl))) (fun _ _ _ _ _ => pts_nil) (fun _ _ _ _ _ => (pe_op op_addU (pv 4) (pv 5)))))))), ?_⟩)
  · obtain ⟨a, rfl, _⟩ := h; rfl
  · intro c ds k hc h
    obtain ⟨⟨ts, q, p⟩, rfl, ⟨len, q1, q24, p0, p24⟩, h⟩ := h
    have len' : ts.length ≤ 24 := len
    have q1' : 1 ≤ q := q1
    have q24' : q ≤ 24 := q24
    have p0' : 0 ≤ p := p0
    have p24' : p ≤ 24 := p24
    have h' : k (.list ((repT ts q ((p.toNat + q.toNat - 1) / q.toNat)).map PyData.int)) := h
    have rg := rgc p0' p24' q1' q24'
    have Nb : (p.toNat + q.toNat - 1) / q.toNat ≤ 48 := Nat.le_trans (Nat.div_le_self _ _) (by omega)
    generalize (p.toNat + q.toNat - 1) / q.toNat = N at h' rg Nb
    have ul : (under ts q).length ≤ 24 := Nat.le_trans (List.length_filter_le _ _) len'
    have rl : ∀ M : Nat, (repT ts q M).length ≤ M * 24 := fun M => by
      induction M with
      | zero => exact Nat.le_refl _
      | succ M ih =>
        rw [repT_succ, List.length_append, List.length_map, Nat.succ_mul]
        omega
    walk_at "nz"
    refine ws_seq (ws_set (we_callW (wa_cons (we_var rfl (wa_cons (we_var rfl (wa_nil ⟨(ts, q), rfl, len', fun la => ⟨.list ((under ts q).map PyData.int), R.lst one_at (RA.of_ints _), ?_⟩⟩))))) underF_mono))
    walk_at "nz"
    refine ws_ret ?_
    refine we_lc2R3 (fun i k acc p' => p' = [] ∧ acc = (repT ts q i ++ ((under ts q).take k).map fun t => (i : Int) * q + t).map PyData.int) 0 q N ((under ts q).map PyData.int) (fun i xs e => no_of rfl _ _ e) rfl (by decide) ?_ ?_ ?_ ?_
    · exact wa_cons (we_int (wa_cons (we_var rfl (wa_cons (we_var rfl (wa_nil ⟨p, rfl, rg, rfl, rfl⟩))))))
    · rintro i k y acc p' hi hy ⟨rfl, rfl⟩ pin
      obtain ⟨t, ht, rfl⟩ := ints_at hy
      have lenA : ((repT ts q i ++ ((under ts q).take k).map fun t => (i : Int) * q + t).map PyData.int).length < sizeLine := by
        rw [List.length_map, List.length_append, List.length_map]
        have a1 := rl i
        have a2 : i * 24 ≤ 48 * 24 := Nat.mul_le_mul_right _ (by omega)
        have a3 := List.length_take_le' k (under ts q)
        exact Nat.lt_of_le_of_lt (show _ ≤ 2000 by omega) (by decide)
      walk_at "nz"
      refine we_op (we_var rfl (we_var rfl (os_addI ?_)))
      refine ⟨lenA, rfl, ?_⟩
      rw [List.take_add_one, ht, Option.toList_some]
      simp only [List.map_append, List.map_cons, List.map_nil, List.append_assoc, Int.zero_add]
    · rintro i acc p' ⟨rfl, rfl⟩
      refine ⟨rfl, ?_⟩
      rw [List.length_map, List.take_length, repT_succ, List.take_zero]
      show _ = (_ ++ []).map _
      rw [List.append_nil]
    · rintro acc p' ⟨rfl, rfl⟩
      rw [List.take_zero]
      show k (.list ((repT ts q N ++ []).map PyData.int))
      rw [List.append_nil]
      exact h'

theorem ok_is_held (T : Tx K mg) (D_catches : D_catches_ P w K mg base) {f : Addr} {fd : FuncData} (F : Here K mg "is_held" s_is_held ["device", "height", "hand"] f fd) : D_is_held_ P w K mg base := by
  refine F.df (fgP F.1 sc_is_held (fun ds k h => ?_) fun cdv B fr s H E hg hr => ⟨_, ((pss_cons (ps_asg (pv 0) (pg_tup (n := 2) rfl (pgs_cons (pg_name (i := 3) sc_is_held.nd rfl (.inl rfl)) (pgs_cons (pg_name (i := 4) sc_is_held.nd rfl (.inl rfl)) pgs_nil))))
      (pss_one (ps_ret (pe_or (pe_callD D_catches hg (hr.mono (by decide)) (by rfl) (pa_cons (pv 3) (pa_cons (pv 1) pa_nil))) (pe_one (pe_callD D_catches hg (hr.mono (by decide)) (by rfl) (pa_cons (pv 4) (pa_cons (pe_op op_sub (pv 1) (pv 2)) pa_nil))))))))), ?_⟩)
  · obtain ⟨a, rfl, _⟩ := h; rfl
  · intro c ds k hc h
    obtain ⟨⟨v, s⟩, rfl, ok, h⟩ := h
    have ok' : v.Ok := ok
    have p1 : 0 < v.1.p := by have := Comb.Ok.p1 ok'.1; omega
    have p2 : 0 < v.2.p := by have := Comb.Ok.p1 ok'.2; omega
    walk_at "go"
    refine we_det (v.1, s.1) ?_
    walk_at "go"
    refine ⟨p1, ?_⟩
    have h' : k (.bool (held v s)) := h
    unfold held at h'
    cases hq : caught v.1 s.1 with
    | true =>
      rw [hq] at h'
      walk_at "go"
      exact h'
    | false =>
      rw [hq] at h'
      walk_at "go"
      refine we_det (v.2, s.1 - s.2) ?_
      walk_at "go"
      exact ⟨p2, h'⟩

theorem ok_after_move (T : Tx K mg) (D_floor_catch : D_floor_catch_ P w K mg base) {f : Addr} {fd : FuncData} (F : Here K mg "after_move" s_after_move ["device", "state", "move"] f fd) : D_after_move_ P w K mg base := by
  refine F.df (fgP F.1 sc_after_move (fun ds k h => ?_) fun cdv B fr s H E hg hr => ⟨_, ((pss_cons (ps_asg (pv 0) (pg_tup (n := 2) rfl (pgs_cons (pg_name (i := 3) sc_after_move.nd rfl (.inl rfl)) (pgs_cons (pg_name (i := 4) sc_after_move.nd rfl (.inl rfl)) pgs_nil))))
      (pss_cons (ps_asg (pv 1) (pg_tup (n := 2) rfl (pgs_cons (pg_name (i := 5) sc_after_move.nd rfl (.inl rfl)) (pgs_cons (pg_name (i := 6) sc_after_move.nd rfl (.inl rfl)) pgs_nil))))
      (pss_cons (ps_if (pt_cmpR op_gt (pv 2) pe_int (nomark _)) (pss_cons (ps_set (i := 7) sc_after_move.nd rfl (.inl rfl) (pe_op op_sub (pv 5) (pv 6)))
      (pss_cons (ps_set (i := 8) sc_after_move.nd rfl (.inl rfl) (pe_callB (call_max2 rfl) (by rfl) T.n_max (by decide +kernel) (pa_cons (pe_op op_sub (pv 7) (pv 2)) (pa_cons (pe_callD D_floor_catch hg (hr.mono (by decide)) (by rfl) (pa_cons (pv 4) (pa_cons (pv 7) pa_nil))) pa_nil))))
      (pss_one (ps_ret (pe_tup (pa_cons (pe_op op_addU (pe_op op_addU (pv 6) (pv 2)) (pv 8)) (pa_cons (pe_op op_addU (pv 6) (pv 2)) pa_nil))))))) pss_nil)
      (pss_one (ps_ret (pe_tup (pa_cons (pe_callB (call_max2 rfl) (by rfl) T.n_max (by decide +kernel) (pa_cons (pe_op op_addU (pv 5) (pv 2)) (pa_cons (pe_callD D_floor_catch hg (hr.mono (by decide)) (by rfl) (pa_cons (pv 3) (pa_cons (pv 5) pa_nil))) pa_nil))) (pa_cons (pe_op op_addU (pv 6) (pv 2)) pa_nil))))))))), ?_⟩)
  · obtain ⟨a, rfl, _⟩ := h; rfl
  · intro c ds k hc h
    obtain ⟨⟨v, s, m⟩, rfl, ok, h⟩ := h
    have h' : k (mv v s m).d := h
    unfold mv at h'
    walk_at "go"
    refine ite2 (fun hb => ?_) (fun hb => ?_)
    · have hb' : m > 0 := of_decide_eq_true hb
      rw [if_pos hb'] at h'
      walk_at "go"
      refine we_det (v.2, s.1 - s.2) ?_
      walk_at "go"
      refine ⟨ok.2, ?_⟩
      walk_at "go"
      exact h'
    · have hb' : ¬ m > 0 := fun q => hb (decide_eq_true q)
      rw [if_neg hb'] at h'
      walk_at "go"
      refine we_det (v.1, s.1) ?_
      walk_at "go"
      refine ⟨ok.1, ?_⟩
      walk_at "go"
      exact h'

theorem ok_check_moves (T : Tx K mg) (D_is_whole : D_is_whole_ P w K mg base) {f : Addr} {fd : FuncData} (F : Here K mg "check_moves" s_check_moves ["moves"] f fd) : D_check_moves_ P w K mg base := by
  refine F.df (fgP F.1 sc_check_moves (fun ds k h => ?_) fun cdv B fr s H E hg hr => ⟨_, ((pss_cons (ps_if (PW.pt (pw_or (pt_not (pt_val (pe_callB (r := rIsi K) call_isi (by rfl) T.n_isinstance (by decide +kernel) (pa_cons (pv 0) (pa_cons (pe_bltn (v := .ty "list") (u := .type "list") (by rfl) T.n_list (by decide +kernel) rfl) pa_nil))))) (pw_or1 (pt_cmpR op_gt (pe_callB (r := rLenQ K) call_len_seq (by rfl) T.n_len (by decide +kernel) (pa_cons (pv 0) pa_nil)) (pe_glob (v := .int 40) (by rfl) T.c_MOST_MOVES.choose_spec ⟨_, rfl⟩) (nomark _))))) (pss_one ps_never) pss_nil)
      (pss_one (ps_for PassesOwn.never rfl (pi_enum (by rfl) T.n_enumerate (pa_cons (pv 0) pa_nil)) (pg_tup (n := 2) rfl (pgs_cons (pg_name (i := 1) sc_check_moves.nd rfl (.inl rfl)) (pgs_cons (pg_name (i := 2) sc_check_moves.nd rfl (.inl rfl)) pgs_nil))) (pss_one (ps_if (PW.pt (pw_or (pt_not (pt_val (pe_callD D_is_whole hg (hr.mono (by decide)) (by rfl) (pa_cons (pv 2) pa_nil)))) (pw_or1 (pt_cmpR (r := rEqU K) (op_eqU hr.units) (pv 2) pe_int (nomark _))))) (pss_one ps_never) pss_nil)))))), ?_⟩)
  · obtain ⟨a, rfl, _⟩ := h; rfl
  · intro c ds k hc h
    obtain ⟨ms, rfl, ⟨ok1, ok2⟩, h⟩ := h
    walk_at "go"
    have e : decide ((40 : Int) < ((ms.map PyData.int).length : Int)) = false := decide_eq_false (by rw [List.length_map]; omega)
    rw [e]
    walk_at "go"
    refine ws_forEL (fun i ds' pl' => ∃ a b, ds' = [some (.d (.list (ms.map PyData.int))), a, b]) (ms.map PyData.int) ?_ ?_ ?_
    · walk_at "go"
      exact ⟨_, _, rfl⟩
    · rintro i x ds' pl' hx ⟨a, b, rfl⟩
      obtain ⟨t, ht, rfl⟩ := ints_at hx
      walk_at "go"
      refine we_det (.int t) ?_
      walk_at "go"
      have e0 : decide (t = 0) = false := decide_eq_false (ok2 t (List.mem_of_getElem? ht))
      rw [e0]
      walk_at "go"
      exact ⟨_, _, rfl⟩
    · rintro ds' pl' ⟨a, b, rfl⟩
      exact h

theorem ok_comb_slacks (T : Tx K mg) (D_floor_catch : D_floor_catch_ P w K mg base) {f : Addr} {fd : FuncData} (F : Here K mg "comb_slacks" s_comb_slacks ["comb"] f fd) : D_comb_slacks_ P w K mg base := by
  refine F.df (fgP F.1 sc_comb_slacks (fun ds k h => ?_) fun cdv B fr s H E hg hr => ⟨_, ((pss_cons (ps_asg (pv 0) (pg_tup (n := 2) rfl (pgs_cons (pg_name (i := 1) sc_comb_slacks.nd rfl (.inl rfl)) (pgs_cons (pg_name (i := 2) sc_comb_slacks.nd rfl (.inl rfl)) pgs_nil))))
      (pss_one (ps_ret (pe_lc (own := [("rest", 3)]) rfl sc_comb_slacks.nd (pi_range1 (by rfl) T.n_range (pa_cons (pv 1) pa_nil)) (blkOk_by (N := ["comb", "pitch", "_", "rest"]) (sc := defScope s_comb_slacks) (by decide +kernel)) (fun _ _ _ _ _ => (pg_name (i := 3) sc_comb_slacks.nd rfl (Or.inl rfl) (Or.inr rfl))) (fun _ _ _ _ _ => pts_nil) (fun _ _ _ _ _ => (pe_op op_sub (pv 3) (pe_callD D_floor_catch hg (hr.mono (by decide)) (by rfl) (pa_cons (pv 0) (pa_cons (pv 3) pa_nil)))))))))), ?_⟩)
  · obtain ⟨a, rfl, _⟩ := h; rfl
  · intro c ds k hc h
    obtain ⟨cb, rfl, ok, h⟩ := h
    have ok' : cb.Ok := ok
    have p1 := ok'.p1
    have p2 := ok'.p24
    walk_at "go"
    refine we_lcR (fun i acc pl' => pl' = [] ∧ acc = ((List.range i).map fun (r : Nat) => slk cb (r : Int)).map PyData.int) cb.p.toNat (fun xs q => by cases q) ?_ ?_ ?_
    · walk_at "go"
      all_goals first | rfl | exact ⟨by omega, by omega, rfl, rfl⟩
    · rintro i acc pl' hi ⟨rfl, rfl⟩ pin
      walk_at "nz"
      walk_at "go"
      refine we_det (cb, (i : Int)) ?_
      walk_at "go"
      refine ⟨ok', ?_⟩
      walk_at "go"
      refine ⟨by rw [List.length_map, List.length_map, List.length_range]; exact Nat.lt_of_le_of_lt (show _ ≤ 100 by omega) (by decide), rfl, ?_⟩
      rw [List.range_succ, List.map_append, List.map_append]
      rfl
    · rintro acc pl' ⟨rfl, rfl⟩
      exact h

theorem ok_repeated_heights (T : Tx K mg) (D_moved_bar : D_moved_bar_ P w K mg base) {f : Addr} {fd : FuncData} (F : Here K mg "repeated_heights" s_repeated_heights ["slacks", "state", "moves"] f fd) : D_repeated_heights_ P w K mg base := by
  refine F.df (fgP F.1 sc_repeated_heights (fun ds k h => ?_) fun cdv B fr s H E hg hr => ⟨_, ((pss_cons (ps_asg (pv 0) (pg_tup (n := 2) rfl (pgs_cons (pg_name (i := 3) sc_repeated_heights.nd rfl (.inl rfl)) (pgs_cons (pg_name (i := 4) sc_repeated_heights.nd rfl (.inl rfl)) pgs_nil))))
      (pss_cons (ps_asg (pv 1) (pg_tup (n := 2) rfl (pgs_cons (pg_name (i := 5) sc_repeated_heights.nd rfl (.inl rfl)) (pgs_cons (pg_name (i := 6) sc_repeated_heights.nd rfl (.inl rfl)) pgs_nil))))
      (pss_cons (ps_set (i := 7) sc_repeated_heights.nd rfl (.inl rfl) (pe_op op_sub (pv 5) (pv 6)))
      (pss_cons (ps_set (i := 8) sc_repeated_heights.nd rfl (.inl rfl) (pe_lst pa_nil))
      (pss_cons (ps_set (i := 9) sc_repeated_heights.nd rfl (.inl rfl) pe_dnewT)
      (pss_cons (ps_set (i := 10) sc_repeated_heights.nd rfl (.inl rfl) (pe_tup (pa_cons (pe_op op_mod (pv 5) (pe_callB (r := rLenQ K) call_len_seq (by rfl) T.n_len (by decide +kernel) (pa_cons (pv 3) pa_nil))) (pa_cons (pe_op op_mod (pv 7) (pe_callB (r := rLenQ K) call_len_seq (by rfl) T.n_len (by decide +kernel) (pa_cons (pv 4) pa_nil))) pa_nil))))
      (pss_cons (ps_while PassesOwn.never (pt_cmp (pc_dnotin (hu_of hr) (pv 10) (pv 9))) (pss_cons (ps_dput (hu_of hr) (pv 9) (pv 10) (pe_callB (r := rLenQ K) call_len_seq (by rfl) T.n_len (by decide +kernel) (pa_cons (pv 8) pa_nil)) rfl)
      (pss_cons (ps_expr (pe_bm PySem.F.plainAttrs_list PySem.F.slot_list_append PySem.F.type_list_append mt_append (pv 8) (pa_cons (pv 5) pa_nil)))
      (pss_cons (ps_asg (pe_callD D_moved_bar hg (hr.mono (by decide)) (by rfl) (pa_cons (pv 0) (pa_cons (pv 5) (pa_cons (pv 7) (pa_cons (pv 2) pa_nil))))) (pg_tup (n := 2) rfl (pgs_cons (pg_name (i := 5) sc_repeated_heights.nd rfl (.inl rfl)) (pgs_cons (pg_name (i := 7) sc_repeated_heights.nd rfl (.inl rfl)) pgs_nil))))
      (pss_one (ps_set (i := 10) sc_repeated_heights.nd rfl (.inl rfl) (pe_tup (pa_cons (pe_op op_mod (pv 5) (pe_callB (r := rLenQ K) call_len_seq (by rfl) T.n_len (by decide +kernel) (pa_cons (pv 3) pa_nil))) (pa_cons (pe_op op_mod (pv 7) (pe_callB (r := rLenQ K) call_len_seq (by rfl) T.n_len (by decide +kernel) (pa_cons (pv 4) pa_nil))) pa_nil)))))))))
      (pss_cons (ps_expr (pe_bm PySem.F.plainAttrs_list PySem.F.slot_list_append PySem.F.type_list_append mt_append (pv 8) (pa_cons (pv 5) pa_nil)))
      (pss_one (ps_ret (pe_tup (pa_cons (pv 8) (pa_cons (pe_dget (hu_of hr) (pv 9) (pv 10) (fun _ _ => rfl)) pa_nil)))))))))))))), ?_⟩)
  · obtain ⟨a, rfl, _⟩ := h; rfl
  · intro c ds k hc h
    obtain ⟨⟨v, s, ms⟩, rfl, ok, h⟩ := h
    have ok' : v.Ok := ok
    walk_at "nz"
    refine ws_of_wsk fun G0 D' ft => ?_
    refine wsk_seq ?_
    walk_at "go"
    refine wsk_seq ?_
    walk_at "go"
    refine wsk_seq ?_
    walk_at "go"
    refine wsk_seq (ws_setO (wa_nil ⟨Nat.zero_le _, ?_⟩))
    walk_at "nz"
    refine wsk_dnew fun p F => ?_
    walk_at "nz"
    refine wsk_seq ?_
    walk_at "go"
    refine os_mod (len_pos ok'.1) ?_
    rw [mod_len ok'.1]
    walk_at "go"
    refine os_mod (len_pos ok'.2) ?_
    rw [mod_len ok'.2]
    walk_at "go"
    refine wsk_while_seen (id := 9) (ip := 10) (il := 8) (fun m kvs ds' pl' => ∃ i, m + i = 577 ∧ (∀ j j', j < j' → j' < i → plc v (rp v ms s j) ≠ plc v (rp v ms s j')) ∧ kvs.length ≤ i ∧ Seen v ms s i kvs ∧ pl' = [] ∧
      ds' = [some (.d (slD v)), some (.d s.d), some (.d (.list (ms.map PyData.int))), some (.d (.list ((sl v.1).map PyData.int))), some (.d (.list ((sl v.2).map PyData.int))), some (.d (.int (rp v ms s i).1)), some (.d (.int s.2)), some (.d (.int (lf (rp v ms s i)))), some (.o ((hts v ms s i).map PyData.int)), some (.v (.ref p)), some (.d (.tuple [.int (plc v (rp v ms s i)).1, .int (plc v (rp v ms s i)).2]))]) 577 F ?_ ?_
    · exact ⟨0, rfl, fun j j' _ h => absurd h (Nat.not_lt_zero _), Nat.le_refl _, seen_nil v ms s, rfl, rfl⟩
    · rintro m kvs ds' pl' ⟨i, hm, inj, kl, sn, rfl, rfl⟩
      have i576 := inj_le ok' inj
      refine ⟨rfl, (plc v (rp v ms s i)).1, (plc v (rp v ms s i)).2, _, rfl, rfl, fun r hr => ?_, fun hn => ⟨Nat.lt_of_le_of_lt (show _ ≤ 1000 by omega) (by decide), ?_⟩⟩
      · obtain ⟨j, hj, e1, rfl⟩ := (sn _ _ _).mp hr
        have cy : Cyc v ms s i j := ⟨hj, e1, inj⟩
        refine wsk_seq (ws_app (xs := (hts v ms s i).map PyData.int) rfl (we_var rfl ⟨?_, ?_⟩))
        · rw [List.length_map, hts_len]; exact Nat.lt_of_le_of_lt (show _ ≤ 1000 by omega) (by decide)
        have eh : (hts v ms s i).map PyData.int ++ [.int (rp v ms s i).1] = (hts v ms s (i + 1)).map PyData.int := by rw [hts_succ, List.map_append]; rfl
        rw [eh]
        walk_at "nz"
        have F1 : Fresh c (one p (.dT kvs)) := fun a o q => by
          obtain ⟨rfl, rfl⟩ := one_some q
          exact F _ _ one_at
        refine wsk_of_ws ?_ (Fits.pinP F1 ft)
        refine ws_frz (i := 8) rfl ?_
        walk_at "nz"
        refine ws_ret ?_
        walk_at "go"
        refine we_dget rfl rfl hr ?_
        walk_at "go"
        exact h _ ⟨i, j, cy, rfl⟩
      · rw [List.length_map, hts_len]
        refine ws_seq (ws_app (xs := (hts v ms s i).map PyData.int) rfl (we_var rfl ⟨?_, ?_⟩))
        · rw [List.length_map, hts_len]; exact Nat.lt_of_le_of_lt (show _ ≤ 1000 by omega) (by decide)
        have eh : (hts v ms s i).map PyData.int ++ [.int (rp v ms s i).1] = (hts v ms s (i + 1)).map PyData.int := by rw [hts_succ, List.map_append]; rfl
        rw [eh]
        walk_at "go"
        refine we_det (v, rp v ms s i, ms) ?_
        walk_at "go"
        refine ⟨ok', ?_⟩
        walk_at "go"
        refine os_mod (len_pos ok'.1) ?_
        rw [mod_len ok'.1]
        walk_at "go"
        refine os_mod (len_pos ok'.2) ?_
        rw [mod_len ok'.2]
        walk_at "go"
        exact ⟨576 - i, by omega, i + 1, by omega, seen_inj sn hn inj, by rw [putK_len' _ _ _ hn]; omega, seen_put sn hn, rfl, rfl⟩

theorem ok_far_height (T : Tx K mg) (D_cycle_rise : D_cycle_rise_ P w K mg base) {f : Addr} {fd : FuncData} (F : Here K mg "far_height" s_far_height ["heights", "ahead", "times"] f fd) : D_far_height_ P w K mg base := by
  refine F.df (fgP F.1 sc_far_height (fun ds k h => ?_) fun cdv B fr s H E hg hr => ⟨_, ((pss_cons (ps_if (pt_cmpR op_lt (pv 2) (pv 1) (nomark _)) (pss_one (ps_ret (pe_ix (r := rIx K) ix_seq (pv 0) (pv 2) (fun _ _ => rfl)))) pss_nil)
      (pss_cons (ps_asg (pe_callD D_cycle_rise hg (hr.mono (by decide)) (by rfl) (pa_cons (pv 0) (pa_cons (pv 1) pa_nil))) (pg_tup (n := 2) rfl (pgs_cons (pg_name (i := 3) sc_far_height.nd rfl (.inl rfl)) (pgs_cons (pg_name (i := 4) sc_far_height.nd rfl (.inl rfl)) pgs_nil))))
      (pss_cons (ps_asg (pe_callB call_divmod (by rfl) T.n_divmod (by decide +kernel) (pa_cons (pe_op op_sub (pv 2) (pv 1)) (pa_cons (pv 3) pa_nil))) (pg_tup (n := 2) rfl (pgs_cons (pg_name (i := 5) sc_far_height.nd rfl (.inl rfl)) (pgs_cons (pg_name (i := 6) sc_far_height.nd rfl (.inl rfl)) pgs_nil))))
      (pss_one (ps_ret (pe_op op_addU (pe_ix (r := rIx K) ix_seq (pv 0) (pe_op op_addU (pv 1) (pv 6)) (fun _ _ => rfl)) (pe_op op_mulU (pv 5) (pv 4))))))))), ?_⟩)
  · obtain ⟨a, rfl, _⟩ := h; rfl
  · intro c ds k hc h
    obtain ⟨⟨⟨v, s, ms⟩, n, j, t⟩, rfl, ⟨ok, cy, tb, sb, ml, mb⟩, h⟩ := h
    have ok' : v.Ok := ok
    have cy' : Cyc v ms s n j := cy
    have lt := cy'.lt
    have n576 := cy'.le ok'
    walk_at "go"
    refine ite2 (fun hb => ?_) (fun hb => ?_)
    · have hb' : (t : Int) < (j : Int) := of_decide_eq_true hb
      walk_at "go"
      refine os_ix (hts_at v ms s (show t < n + 1 by omega)) ?_
      exact h
    · have hb' : ¬ (t : Int) < (j : Int) := fun z => hb (decide_eq_true z)
      walk_at "go"
      refine we_det (v, s, ms, n, j) ?_
      walk_at "go"
      refine ⟨lt, ?_⟩
      walk_at "go"
      refine cb_divmod ⟨by omega, by omega⟩ ?_
      walk_at "go"
      have e1 : (t : Int) - (j : Int) = ((t - j : Nat) : Int) := by omega
      have e2 : (n : Int) - (j : Int) = ((n - j : Nat) : Int) := by omega
      have e3 : ((t : Int) - (j : Int)) / ((n : Int) - (j : Int)) = (((t - j) / (n - j) : Nat) : Int) := by rw [e1, e2]; rfl
      have e4 : (j : Int) + ((t : Int) - (j : Int)) % ((n : Int) - (j : Int)) = ((j + (t - j) % (n - j) : Nat) : Int) := by rw [e1, e2]; rfl
      have lm : (t - j) % (n - j) < n - j := Nat.mod_lt _ (by omega)
      rw [e3, e4]
      refine os_ix (hts_at v ms s (show j + (t - j) % (n - j) < n + 1 by omega)) ?_
      walk_at "go"
      refine os_mulI (far_mul ok' ml mb sb n576 (by omega) tb) ?_
      walk_at "go"
      rw [cy'.far ok' (show j ≤ t by omega)]
      exact h

theorem ok_heights_behind_more (T : Tx K mg) (D_heights_from : D_heights_from_ P w K mg base) {f : Addr} {fd : FuncData} (F : Here K mg "heights_behind_more" s_heights_behind_more ["slacks", "heights"] f fd) : D_heights_behind_more_ P w K mg base := by
  refine F.df (fgP F.1 sc_heights_behind_more (fun ds k h => ?_) fun cdv B fr s H E hg hr => ⟨_, ((pss_cons (ps_set (i := 2) sc_heights_behind_more.nd rfl (.inl rfl) (pe_callTy (r := rListQ K) call_list_of (by rfl) T.n_list (by decide +kernel) (pa_cons (pv 1) pa_nil)))
      (pss_cons (ps_for PassesOwn.never rfl (pi_enum (by rfl) T.n_enumerate (pa_cons (pv 1) pa_nil)) (pg_tup (n := 2) rfl (pgs_cons (pg_name (i := 3) sc_heights_behind_more.nd rfl (.inl rfl)) (pgs_cons (pg_name (i := 4) sc_heights_behind_more.nd rfl (.inl rfl)) pgs_nil))) (pss_one (ps_if (pt_cmpR op_notN (pv 4) pe_non (nomark _)) (pss_one (ps_for PassesOwn.never rfl (pi_enum (by rfl) T.n_enumerate (pa_cons (pe_callD D_heights_from hg (hr.mono (by decide)) (by rfl) (pa_cons (pv 0) (pa_cons (pv 4) (pa_cons (pv 3) (pa_cons (pe_op op_sub (pe_callB (r := rLenQ K) call_len_seq (by rfl) T.n_len (by decide +kernel) (pa_cons (pv 1) pa_nil)) pe_int) pa_nil))))) pa_nil)) (pg_tup (n := 2) rfl (pgs_cons (pg_name (i := 5) sc_heights_behind_more.nd rfl (.inl rfl)) (pgs_cons (pg_name (i := 6) sc_heights_behind_more.nd rfl (.inl rfl)) pgs_nil))) (pss_one (ps_if (PW.pt (pw_or (pt_cmpR op_isN (pe_ix (r := rIx K) ix_seq (pv 2) (pv 5) (fun _ _ => rfl)) pe_non (nomark _)) (pw_or1 (pt_cmpR op_lt (pe_ix (r := rIx K) ix_seq (pv 2) (pv 5) (fun _ _ => rfl)) (pv 6) (nomark _))))) (pss_one (ps_asg (pv 6) (pg_sub (pv 2) (pv 5) set_list))) pss_nil)))) pss_nil)))
      (pss_one (ps_ret (pv 2)))))), ?_⟩)
  · obtain ⟨a, rfl, _⟩ := h; rfl
  · intro c ds k hc h
    obtain ⟨⟨v, tops⟩, rfl, ⟨ok, tl⟩, h⟩ := h
    have ok' : v.Ok := ok
    have tl' : tops.length ≤ 25 := tl
    have h' : k (.list ((more v tops).map optI)) := h
    walk_at "nz"
    refine ws_seq (ws_listO (we_var rfl ⟨_, rfl, ?_⟩))
    walk_at "nz"
    refine ws_seq ?_
    refine ws_forEL (fun i ds' pl' => ∃ x1 x2 x3 x4, ds' = [some (.d (slD v)), some (.d (.list (tops.map optI))), some (.o ((moreF v tops i).map optI)), x1, x2, x3, x4] ∧ pl' = []) (tops.map optI) ?_ ?_ ?_
    · refine wa_cons (we_var rfl (wa_nil ⟨rfl, _, _, _, _, rfl, rfl⟩))
    · rintro i x ds' pl' hx ⟨x1, x2, x3, x4, rfl, rfl⟩
      rw [List.getElem?_map] at hx
      cases ht : tops[i]? with
      | none => rw [ht] at hx; cases hx
      | some o =>
        rw [ht] at hx
        cases hx
        have hlt := (List.getElem?_eq_some_iff.mp ht).1
        obtain ⟨i9, hi9⟩ : ∃ y : Int, (i : Int) = y := ⟨_, rfl⟩
        have ml := moreF_len v tops i
        rw [hi9]
        walk_at "nz"
        refine ws_if (wt_B (we_op (we_var rfl (we_non ?_))))
        refine os_notN ?_
        rw [nonB_opt]
        cases o with
        | none =>
          refine iteN rfl ?_
          refine ws_next ?_
          have e : moreF v tops (i + 1) = moreF v tops i := by rw [moreF_succ]; unfold turnF; rw [ht]
          rw [e]
          exact ⟨_, _, _, _, rfl, rfl⟩
        | some h0 =>
          refine iteV rfl ?_
          have e : moreF v tops (i + 1) = innerF v (moreF v tops i) i h0 tops.length := by rw [moreF_succ]; unfold turnF; rw [ht]
          rw [e]
          generalize moreF v tops i = best at ml
          show WS _ _ _ _ _
          refine ws_forEL (fun g ds' pl' => ∃ x3 x4, ds' = [some (.d (slD v)), some (.d (.list (tops.map optI))), some (.o ((innerF v best i h0 g).map optI)), some (.d (.int i9)), some (.d (.int h0)), x3, x4] ∧ pl' = []) ((List.range tops.length).map fun g => PyData.int (reachH v h0 i g)) ?_ ?_ ?_
          · refine wa_cons (we_det (v, h0, i, tops.length - 1) ?_)
            have el : ((tops.map optI).length : Int) - 1 = ((tops.length - 1 : Nat) : Int) := by rw [List.length_map]; omega
            obtain ⟨l9, hl9⟩ : ∃ y : Int, ((tops.length - 1 : Nat) : Int) = y := ⟨_, rfl⟩
            refine wa_cons (we_var rfl ?_)
            refine wa_cons (we_var rfl ?_)
            refine wa_cons (we_var rfl ?_)
            refine wa_cons (we_op ?_)
            refine we_cb (wa_cons (we_var rfl (wa_nil (cb_lenL ?_))))
            refine we_int (os_sub ?_)
            rw [el]
            refine wa_nil ⟨by rw [← hi9]; rfl, ⟨ok', by show i ≤ tops.length - 1; omega, by show tops.length - 1 ≤ 24; omega⟩, ?_⟩
            refine wa_nil ⟨?_, _, _, rfl, rfl⟩
            show [PyData.list ((List.range (tops.length - 1 + 1)).map fun g => .int (reachH v h0 i g))] = _
            rw [show tops.length - 1 + 1 = tops.length by omega]
          · rintro g x ds' pl' hx ⟨x3, x4, rfl, rfl⟩
            rw [List.getElem?_map] at hx
            have hg : g < tops.length := by
              rcases Nat.lt_or_ge g tops.length with z | z
              · exact z
              · rw [List.getElem?_eq_none (by rw [List.length_range]; exact z)] at hx
                cases hx
            rw [List.getElem?_range hg] at hx
            cases hx
            have il := innerF_len v best i h0 g
            rw [innerF_succ]
            generalize innerF v best i h0 g = bb at il
            have rgen : ∃ r, reachH v h0 i g = r := ⟨_, rfl⟩
            obtain ⟨r, hr⟩ := rgen
            rw [hr]
            obtain ⟨o, ho⟩ : ∃ o, bb[g]? = some o := ⟨_, List.getElem?_eq_getElem (by omega)⟩
            have ho2 : ixD (.list (bb.map optI)) (g : Int) = some (optI o) := atI_nat (by rw [List.getElem?_map, ho]; rfl)
            have hix : ixN (bb.map optI).length (g : Int) = some g := Evl.ixN_nat (by rw [List.length_map]; omega)
            obtain ⟨g9, hg9⟩ : ∃ y : Int, (g : Int) = y := ⟨_, rfl⟩
            rw [hg9] at ho2 hix
            rw [hg9]
            walk_at "nz"
            rw [hr]
            refine ws_if (wt_or (wt_B (we_op (we_opV (xs := bb.map optI) rfl (we_var rfl ?_)))))
            refine os_ix ho2 ?_
            refine we_non (os_isN ?_)
            rw [nonB_opt]
            have setE : (bb.map optI).set g (.int r) = (bb.set g (some r)).map optI := by rw [List.map_set]; rfl
            cases o with
            | none =>
              have eu : updG bb g r = bb.set g (some r) := by unfold updG; rw [ho]
              refine iteV rfl ?_
              refine iteV rfl ?_
              refine ws_setIx (xs := bb.map optI) rfl ?_
              refine we_var rfl (we_var rfl ⟨g, hix, ?_⟩)
              rw [setE, eu]
              exact ⟨_, _, rfl, rfl⟩
            | some x =>
              refine iteN rfl ?_
              refine wt_B (we_op (we_opV (xs := bb.map optI) rfl (we_var rfl ?_)))
              refine os_ix ho2 ?_
              refine we_var rfl ?_
              refine os_lt ?_
              walk_at "nz"
              by_cases q : x < r
              · have eu : updG bb g r = bb.set g (some r) := by unfold updG; rw [ho]; exact if_pos q
                refine iteV (decide_eq_true q) ?_
                refine ws_setIx (xs := bb.map optI) rfl ?_
                refine we_var rfl (we_var rfl ⟨g, hix, ?_⟩)
                rw [setE, eu]
                exact ⟨_, _, rfl, rfl⟩
              · have eu : updG bb g r = bb := by unfold updG; rw [ho]; exact if_neg q
                refine iteN (decide_eq_false q) ?_
                refine ws_next ?_
                rw [eu]
                exact ⟨_, _, rfl, rfl⟩
          · rintro ds' pl' ⟨x3, x4, rfl, rfl⟩
            rw [List.length_map, List.length_range]
            exact ⟨_, _, _, _, rfl, rfl⟩
    · rintro ds' pl' ⟨x1, x2, x3, x4, rfl, rfl⟩
      refine ws_retO (i := 2) rfl ?_
      rw [List.length_map]
      exact h'

theorem ok_moved_place (T : Tx K mg) (D_moved_bar : D_moved_bar_ P w K mg base) {f : Addr} {fd : FuncData} (F : Here K mg "moved_place" s_moved_place ["slacks", "place", "moves"] f fd) : D_moved_place_ P w K mg base := by
  refine F.df (fgP F.1 sc_moved_place (fun ds k h => ?_) fun cdv B fr s H E hg hr => ⟨_, ((pss_cons (ps_asg (pv 0) (pg_tup (n := 2) rfl (pgs_cons (pg_name (i := 3) sc_moved_place.nd rfl (.inl rfl)) (pgs_cons (pg_name (i := 4) sc_moved_place.nd rfl (.inl rfl)) pgs_nil))))
      (pss_cons (ps_asg (pv 1) (pg_tup (n := 3) rfl (pgs_cons (pg_name (i := 5) sc_moved_place.nd rfl (.inl rfl)) (pgs_cons (pg_name (i := 6) sc_moved_place.nd rfl (.inl rfl)) (pgs_cons (pg_name (i := 7) sc_moved_place.nd rfl (.inl rfl)) pgs_nil)))))
      (pss_cons (ps_asg (pe_callD D_moved_bar hg (hr.mono (by decide)) (by rfl) (pa_cons (pv 0) (pa_cons (pv 5) (pa_cons (pv 6) (pa_cons (pv 2) pa_nil))))) (pg_tup (n := 2) rfl (pgs_cons (pg_name (i := 8) sc_moved_place.nd rfl (.inl rfl)) (pgs_cons (pg_name (i := 9) sc_moved_place.nd rfl (.inl rfl)) pgs_nil))))
      (pss_cons (ps_asg (pe_callD D_moved_bar hg (hr.mono (by decide)) (by rfl) (pa_cons (pv 0) (pa_cons (pe_op op_addU (pv 5) (pv 7)) (pa_cons (pe_op op_addU (pv 6) (pv 7)) (pa_cons (pv 2) pa_nil))))) (pg_tup (n := 2) rfl (pgs_cons (pg_name (i := 10) sc_moved_place.nd rfl (.inl rfl)) (pgs_cons (pg_name (i := 11) sc_moved_place.nd rfl (.inl rfl)) pgs_nil))))
      (pss_one (ps_ret (pe_tup (pa_cons (pe_op op_mod (pv 8) (pe_callB (r := rLenQ K) call_len_seq (by rfl) T.n_len (by decide +kernel) (pa_cons (pv 3) pa_nil))) (pa_cons (pe_op op_mod (pv 9) (pe_callB (r := rLenQ K) call_len_seq (by rfl) T.n_len (by decide +kernel) (pa_cons (pv 4) pa_nil))) (pa_cons (pe_op op_sub (pv 10) (pv 8)) pa_nil))))))))))), ?_⟩)
  · obtain ⟨a, rfl, _⟩ := h; rfl
  · intro c ds k hc h
    obtain ⟨⟨v, s, g, ms⟩, rfl, ok, h⟩ := h
    have ok' : v.Ok := ok
    have h' : k (pl3 v (mvs v s ms) (gapM v s g ms)) := h
    obtain ⟨t, ht⟩ : ∃ t : Sv, t = ((plc v s).1, (plc v s).1 - (plc v s).2) := ⟨_, rfl⟩
    have own : plc v t = plc v s := by rw [ht]; exact plc_own v s
    have e1 := gap_same ok' own g ms
    have e2 := plc_same ok' own ms
    rw [← e1] at h'
    have h'' : k (.tuple [.int (plc v (mvs v s ms)).1, .int (plc v (mvs v s ms)).2, .int (gapM v t g ms)]) := h'
    rw [← e2] at h''
    have t1 : t.1 = (plc v s).1 := by rw [ht]
    have lt : lf t = (plc v s).2 := by
      unfold lf
      rw [ht]
      show (plc v s).1 - ((plc v s).1 - (plc v s).2) = (plc v s).2
      omega
    walk_at "nz"
    refine ws_seq (ws_unpN rfl (we_var rfl ⟨_, _, rfl, ?_⟩))
    walk_at "nz"
    refine ws_seq (ws_unp3 rfl (we_var rfl ⟨_, _, _, rfl, ?_⟩))
    rw [← t1, ← lt]
    walk_at "nz"
    refine ws_seq (ws_unpN rfl ?_)
    refine we_det (v, t, ms) ?_
    refine wa_cons (we_var rfl (wa_cons (we_var rfl (wa_cons (we_var rfl (wa_cons (we_var rfl (wa_nil ⟨rfl, ok', ?_⟩))))))))
    refine ⟨_, _, rfl, ?_⟩
    walk_at "nz"
    refine ws_seq (ws_unpN rfl ?_)
    refine we_det (v, ((t.1 + g, t.2) : Sv), ms) ?_
    refine wa_cons (we_var rfl (wa_cons (we_op (we_var rfl (we_var rfl (os_addI ?_))))))
    refine wa_cons (we_op (we_var rfl (we_var rfl (os_addI ?_))))
    refine wa_cons (we_var rfl (wa_nil ⟨?_, ok', ?_⟩))
    · have : lf t + g = lf (t.1 + g, t.2) := by unfold lf; show t.1 - t.2 + g = t.1 + g - t.2; omega
      rw [this]
    refine ⟨_, _, rfl, ?_⟩
    walk_at "nz"
    refine ws_ret (we_tup (wa_cons (we_op (we_var rfl (we_cb (wa_cons (we_var rfl (wa_nil (cb_lenL ?_)))))))))
    refine os_mod (len_pos ok'.1) ?_
    rw [mod_len ok'.1]
    refine wa_cons (we_op (we_var rfl (we_cb (wa_cons (we_var rfl (wa_nil (cb_lenL ?_)))))))
    refine os_mod (len_pos ok'.2) ?_
    rw [mod_len ok'.2]
    refine wa_cons (we_op (we_var rfl (we_var rfl (os_sub ?_))))
    refine wa_nil ⟨by show 3 ≤ sizeLine; decide, ?_⟩
    exact h''

theorem ok_seen_bars (T : Tx K mg) (D_moved_bar : D_moved_bar_ P w K mg base) {f : Addr} {fd : FuncData} (F : Here K mg "seen_bars" s_seen_bars ["slacks", "bars", "look"] f fd) : D_seen_bars_ P w K mg base := by
  refine F.df (fgP F.1 sc_seen_bars (fun ds k h => ?_) fun cdv B fr s H E hg hr => ⟨_, ((pss_cons (ps_asg (pv 2) (pg_tup (n := 2) rfl (pgs_cons (pg_name (i := 3) sc_seen_bars.nd rfl (.inl rfl)) (pgs_cons (pg_name (i := 4) sc_seen_bars.nd rfl (.inl rfl)) pgs_nil))))
      (pss_cons (ps_set (i := 5) sc_seen_bars.nd rfl (.inl rfl) (pe_lst pa_nil))
      (pss_cons (ps_for PassesOwn.never rfl (pi_list (pv 1)) (pg_tup (n := 3) rfl (pgs_cons (pg_name (i := 6) sc_seen_bars.nd rfl (.inl rfl)) (pgs_cons (pg_name (i := 7) sc_seen_bars.nd rfl (.inl rfl)) (pgs_cons (pg_name (i := 8) sc_seen_bars.nd rfl (.inl rfl)) pgs_nil)))) (pss_cons (ps_asg (pe_callD D_moved_bar hg (hr.mono (by decide)) (by rfl) (pa_cons (pv 0) (pa_cons (pv 7) (pa_cons (pv 8) (pa_cons (pe_lst (pa_cons (pv 3) pa_nil)) pa_nil))))) (pg_tup (n := 2) rfl (pgs_cons (pg_name (i := 9) sc_seen_bars.nd rfl (.inl rfl)) (pgs_cons (pg_name (i := 10) sc_seen_bars.nd rfl (.inl rfl)) pgs_nil))))
      (pss_one (ps_if (pt_cmpR (r := rEqU K) (op_eqU hr.units) (pe_op op_sub (pv 9) (pv 7)) (pv 4) (nomark _)) (pss_one (ps_expr (pe_bm PySem.F.plainAttrs_list PySem.F.slot_list_append PySem.F.type_list_append mt_append (pv 5) (pa_cons (pe_tup (pa_cons (pv 6) (pa_cons (pv 9) (pa_cons (pv 10) pa_nil)))) pa_nil)))) pss_nil))))
      (pss_one (ps_ret (pv 5))))))), ?_⟩)
  · obtain ⟨a, rfl, _⟩ := h; rfl
  · intro c ds k hc h
    obtain ⟨⟨v, bs, q⟩, rfl, ⟨ok, bl⟩, h⟩ := h
    have ok' : v.Ok := ok
    have bl' : bs.length ≤ 576 := bl
    walk_at "nz"
    refine ws_seq (ws_unpN rfl (we_var rfl ⟨_, _, rfl, ?_⟩))
    walk_at "nz"
    refine ws_seq (ws_setO (wa_nil ⟨by decide, ?_⟩))
    walk_at "nz"
    refine ws_seq ?_
    refine ws_forG (u3 6 7 8) (fun i ds' pl' => ∃ x1 x2 x3 x4 x5, ds' = [some (.d (slD v)), some (.d (.list (bs.map barD))), some (.d (Sv.d q)), some (.d (.int q.1)), some (.d (.int q.2)), some (.o ((seenL v (bs.take i) q).map barD)), x1, x2, x3, x4, x5] ∧ pl' = []) (bs.map barD) (fun x hx => ?_) ?_ ?_ ?_
    · obtain ⟨b, _, rfl⟩ := List.mem_map.mp hx
      exact ga_tup3 rfl (ga_name 6 _) (ga_name 7 _) (ga_name 8 _)
    · exact we_var rfl ⟨rfl, _, _, _, _, _, rfl, rfl⟩
    · rintro i x ds' pl' hx ⟨x1, x2, x3, x4, x5, rfl, rfl⟩
      rw [List.getElem?_map] at hx
      cases ht : bs[i]? with
      | none => rw [ht] at hx; cases hx
      | some b =>
        rw [ht] at hx
        cases hx
        obtain ⟨st, s⟩ := b
        have tk : bs.take (i + 1) = bs.take i ++ [(st, s)] := by rw [List.take_add_one, ht]; rfl
        have sl := seenL_len v (bs.take i) q
        have tl : (bs.take i).length ≤ 576 := by rw [List.length_take]; omega
        have len : ((seenL v (bs.take i) q).map barD).length < sizeLine := by
          rw [List.length_map]
          exact Nat.lt_of_le_of_lt (Nat.le_trans sl tl) (by decide)
        dsimp only [u3, barD]
        walk_at "nz"
        refine ws_seq (ws_unpN rfl (we_det (v, s, [q.1]) ?_))
        repeat (first | walk_at "pd" | with_reducible refine we_lst ?_)
        refine ⟨ok', ?_⟩
        refine ⟨_, _, rfl, ?_⟩
        walk_at "nz"
        refine ws_if ?_
        walk_at "go"
        by_cases hb : (mv v s q.1).1 - s.1 = q.2
        · rw [show decide ((mvs v s [q.1]).1 - s.1 = q.2) = true from decide_eq_true hb]
          refine iteV rfl ?_
          have e : (seenL v (bs.take i) q).map barD ++ [.tuple [Sv.d st, .int (mvs v s [q.1]).1, .int (lf (mvs v s [q.1]))]] = (seenL v (bs.take (i + 1)) q).map barD := by
            rw [tk, seenL_app, seenL_yes v (b := (st, s)) (q := q) hb, List.map_append]
            rfl
          refine ws_app (xs := (seenL v (bs.take i) q).map barD) rfl ?_
          walk_at "go"
          walk_at "nz"
          rw [e]
          exact ⟨len, _, _, _, _, _, rfl, rfl⟩
        · rw [show decide ((mvs v s [q.1]).1 - s.1 = q.2) = false from decide_eq_false hb]
          refine iteN rfl ?_
          refine ws_next ?_
          have e : (seenL v (bs.take i) q).map barD = (seenL v (bs.take (i + 1)) q).map barD := by
            rw [tk, seenL_app, seenL_no v (b := (st, s)) (q := q) hb, List.append_nil]
          rw [e]
          exact ⟨_, _, _, _, _, rfl, rfl⟩
    · rintro ds' pl' ⟨x1, x2, x3, x4, x5, rfl, rfl⟩
      refine ws_retO (i := 5) rfl ?_
      rw [List.length_map, List.take_length]
      exact h

theorem ok__law_comb (T : Tx K mg) (D__law_pick : D__law_pick_ P w K mg base) {f : Addr} {fd : FuncData} (F : Here K mg "_law_comb" s__law_comb ["jar", "most"] f fd) : D__law_comb_ P w K mg base := by
  refine F.df (fgO F.1 sc__law_comb (fun pl ds k h => ?_) fun cdv B fr s H E hg hr => ⟨_, ((pss_cons (ps_set (i := 2) sc__law_comb.nd rfl (.inl rfl) (pe_ix (r := rIx K) ix_seq (pe_lst (pa_cons (pe_op op_addU pe_int (pe_callD D__law_pick hg (hr.mono (by decide)) (by rfl) (pa_cons (pv 0) (pa_cons (pv 1) pa_nil)))) (pa_cons (pv 1) pa_nil))) (pe_callD D__law_pick hg (hr.mono (by decide)) (by rfl) (pa_cons (pv 0) (pa_cons pe_int pa_nil))) (fun _ _ => rfl)))
      (pss_cons (ps_set (i := 3) sc__law_comb.nd rfl (.inl rfl) (pe_ix (r := rIx K) ix_seq (pe_lst (pa_cons pe_int (pa_cons (pe_op op_addU pe_int (pe_callD D__law_pick hg (hr.mono (by decide)) (by rfl) (pa_cons (pv 0) (pa_cons (pe_callB (call_min2 rfl) (by rfl) T.n_min (by decide +kernel) (pa_cons pe_int (pa_cons (pv 2) pa_nil))) pa_nil)))) (pa_cons (pe_op op_addU pe_int (pe_callD D__law_pick hg (hr.mono (by decide)) (by rfl) (pa_cons (pv 0) (pa_cons (pv 2) pa_nil)))) (pa_cons (pv 2) pa_nil))))) (pe_callD D__law_pick hg (hr.mono (by decide)) (by rfl) (pa_cons (pv 0) (pa_cons pe_int pa_nil))) (fun _ _ => rfl)))
      (pss_cons (ps_par (i := 4) (j := 5) rfl sc__law_comb.nd rfl rfl (by decide) rfl rfl (pa_cons (pe_listRg rfl (by rfl) T.n_list (prg_1 (by rfl) T.n_range (pv 2))) (pa_cons (pe_lst pa_nil) pa_nil)) (by rfl))
      (pss_cons (ps_for PassesOwn.never rfl (pi_range1 (by rfl) T.n_range (pa_cons (pv 3) pa_nil)) (pg_name (i := 6) sc__law_comb.nd rfl (.inl rfl)) (pss_one (ps_expr (pe_bm PySem.F.plainAttrs_list PySem.F.slot_list_append PySem.F.type_list_append mt_append (pv 5) (pa_cons (pe_bm PySem.F.plainAttrs_list PySem.F.slot_list_pop PySem.F.type_list_pop mt_popAt (pv 4) (pa_cons (pe_callD D__law_pick hg (hr.mono (by decide)) (by rfl) (pa_cons (pv 0) (pa_cons (pe_callB (r := rLenQ K) call_len_seq (by rfl) T.n_len (by decide +kernel) (pa_cons (pv 4) pa_nil)) pa_nil))) pa_nil)) pa_nil)))))
      (pss_one (ps_ret (pe_tup (pa_cons (pv 2) (pa_cons (pe_callB (r := rSortedI K) cr_sortedI (by rfl) T.n_sorted (by decide +kernel) (pa_cons (pv 5) pa_nil)) pa_nil)))))))))), ?_⟩)
  · obtain ⟨a, n, rfl, _⟩ := h; rfl
  · intro c p pl ds k hp h
    obtain ⟨most, n, rfl, ⟨t0, t1⟩, hP, hn, h⟩ := h
    have t0' : 1 ≤ most := t0
    have t1' : most ≤ 24 := t1
    have big : (24 : Int) < (2 : Int) ^ 200 := by decide +kernel
    walk_at "go"
    refine we_lst ?_
    walk_at "go"
    refine we_draw most n rfl hp ?_
    walk_at "go"
    refine ⟨⟨by omega, by omega⟩, hP, by omega, fun v1 pl1 v10 v11 hP1 => ?_⟩
    walk_at "go"
    refine we_draw 2 (n + 1) rfl hp ?_
    walk_at "go"
    refine ⟨hP1, by omega, fun v2 pl2 v20 v21 hP2 => ?_⟩
    walk_at "go"
    refine os_pick (fun x => ∃ z : Int, x = .int z ∧ 1 ≤ z ∧ z ≤ 24 ∧ z ≤ most) v20 v21 ?_ ?_
    · intro x hx
      rcases List.mem_cons.mp hx with rfl | hx
      · exact ⟨1 + v1, rfl, by omega, by omega, by omega⟩
      · rcases List.mem_cons.mp hx with rfl | hx
        · exact ⟨most, rfl, by omega, by omega, Int.le_refl _⟩
        · cases hx
    rintro _ ⟨z, rfl, s1, s24, smost⟩
    walk_at "nz"
    refine ws_seq (ws_set (we_op ?_))
    repeat (first | walk_at "pd" | with_reducible refine we_lst ?_)
    refine we_draw (min 3 z) (n + 2) rfl hp ?_
    walk_at "go"
    refine ⟨⟨by omega, by omega⟩, hP2, by omega, fun v3 pl3 v30 v31 hP3 => ?_⟩
    walk_at "go"
    refine we_draw z (n + 3) rfl hp ?_
    walk_at "go"
    refine ⟨⟨by omega, by omega⟩, hP3, by omega, fun v4 pl4 v40 v41 hP4 => ?_⟩
    walk_at "go"
    refine we_draw 4 (n + 4) rfl hp ?_
    walk_at "go"
    refine ⟨hP4, by omega, fun v5 pl5 v50 v51 hP5 => ?_⟩
    refine os_pick (fun x => ∃ j : Int, x = .int j ∧ 1 ≤ j ∧ j ≤ z) v50 v51 ?_ ?_
    · intro x hx
      simp only [List.mem_cons, List.not_mem_nil, or_false] at hx
      rcases hx with rfl | rfl | rfl | rfl
      · exact ⟨_, rfl, by omega, by omega⟩
      · exact ⟨_, rfl, by omega, by omega⟩
      · exact ⟨_, rfl, by omega, by omega⟩
      · exact ⟨_, rfl, by omega, by omega⟩
    rintro _ ⟨many, rfl, a1, a2⟩
    obtain ⟨Z, rfl⟩ : ∃ Z : Nat, z = (Z : Int) := ⟨z.toNat, by omega⟩
    obtain ⟨A, rfl⟩ : ∃ A : Nat, many = (A : Int) := ⟨many.toNat, by omega⟩
    walk_at "nz"
    refine ws_seq (ws_parLR (we_var rfl ⟨Z, rfl, by omega, ?_⟩))
    walk_at "nz"
    refine ws_seq ?_
    refine ws_forR1 (fun i ds' pl' => ∃ (F Lf : List Int) (x : _), ds' = [some (.v (.ref p)), some (.d (.int most)), some (.d (.int (Z : Int))), some (.d (.int (A : Int))), some (.o (Lf.map PyData.int)), some (.o (F.map PyData.int)), x] ∧ F.length = i ∧ (F ++ Lf).Perm ((List.range Z).map fun (i : Nat) => (i : Int)) ∧ Pk (n + 5 + i) pl') A ?_ ?_ ?_
    · refine wa_cons (we_var rfl (wa_nil ⟨(A : Int), rfl, Int.toNat_natCast _, by omega, by omega, [], _, _, rfl, rfl, .refl _, hP5⟩))
    · rintro i ds' pl' hi ⟨F, Lf, x, rfl, fl, pm, hPi⟩
      have ll : F.length + Lf.length = Z := by
        have := pm.length_eq
        rwa [List.length_append, List.length_map, List.length_range] at this
      obtain ⟨q, hq⟩ : ∃ q : Int, ((Lf.map PyData.int).length : Int) = q := ⟨_, rfl⟩
      have hq2 : (Lf.length : Int) = q := by rw [← hq, List.length_map]
      walk_at "nz"
      refine ws_appPop (xs := F.map PyData.int) (ys := Lf.map PyData.int) rfl rfl (by decide) ?_
      refine we_draw q (n + 5 + i) rfl hp ?_
      refine wa_cons (we_lenO (xs := Lf.map PyData.int) rfl ?_)
      refine wa_nil ⟨by rw [hq], ⟨by omega, by omega⟩, hPi, by omega, fun v6 pl6 v60 v61 hP6 => ?_⟩
      obtain ⟨m, rfl⟩ : ∃ m : Nat, v6 = (m : Int) := ⟨v6.toNat, by omega⟩
      have hm : m < Lf.length := by omega
      refine ⟨m, .int (Lf[m]'hm), rfl, by omega, by rw [List.getElem?_map, List.getElem?_eq_getElem hm]; rfl, by rw [List.length_map]; exact Nat.lt_of_le_of_lt (show _ ≤ 100 by omega) (by decide), ?_⟩
      refine ⟨F ++ [Lf[m]'hm], Lf.eraseIdx m, some (.d (.int (i : Int))), ?_, by rw [List.length_append, fl]; rfl, ?_, hP6⟩
      · have e1 : (Lf.map PyData.int).eraseIdx m = (Lf.eraseIdx m).map PyData.int := erase_map ..
        rw [e1, List.map_append]
        rfl
      · rw [List.append_assoc]
        exact ((erase_perm hm).append_left F).trans pm
    · rintro ds' pl' ⟨F, Lf, x, rfl, fl, pm, hPi⟩
      refine ws_frz (i := 5) rfl ?_
      walk_at "nz"
      refine ws_ret (we_tup (wa_cons (we_var rfl (wa_cons (we_cb (wa_cons (we_var rfl (wa_nil (cb_sortedI fun S pmS psS => ?_)))))))))
      refine wa_nil ⟨by show 2 ≤ sizeLine; decide, ?_⟩
      have inF : ∀ t ∈ S, 0 ≤ t ∧ t < (Z : Int) := fun t ht => range_in (pm.mem_iff.mp (List.mem_append_left _ (pmS.mem_iff.mp ht)))
      have nd : S.Pairwise (· ≠ ·) := by
        have h1 : ((List.range Z).map fun (i : Nat) => (i : Int)).Pairwise (· ≠ ·) := (range_up Z).imp fun h => Int.ne_of_lt h
        have h2 : (F ++ Lf).Pairwise (· ≠ ·) := (pm.pairwise_iff (fun h => Ne.symm h)).mpr h1
        exact (pmS.pairwise_iff (fun h => Ne.symm h)).mpr (List.pairwise_append.mp h2).1
      have up : S.Pairwise (· < ·) := (psS.and nd).imp fun h => by have := h.1; have := h.2; omega
      exact h _ _ ⟨⟨(Z : Int), S⟩, rfl, ⟨s1, s24, fun z => by
        have z' : S = [] := z
        have := pmS.length_eq
        rw [z', fl] at this
        have h0 : ([] : List Int).length = 0 := rfl
        omega, fun t ht => (inF t ht).1, fun t ht => (inF t ht).2, up⟩, smost⟩ (hPi.up (by show n + 5 + A ≤ n + 100; omega))

theorem ok__law_stand (T : Tx K mg) (D__law_pick : D__law_pick_ P w K mg base) (D__law_under : D__law_under_ P w K mg base) {f : Addr} {fd : FuncData} (F : Here K mg "_law_stand" s__law_stand ["jar", "pair", "far"] f fd) : D__law_stand_ P w K mg base := by
  refine F.df (fgO F.1 sc__law_stand (fun pl ds k h => ?_) fun cdv B fr s H E hg hr => ⟨_, ((pss_cons (ps_set (i := 3) sc__law_stand.nd rfl (.inl rfl) (pe_op op_sub (pe_callD D__law_pick hg (hr.mono (by decide)) (by rfl) (pa_cons (pv 0) (pa_cons (pe_op op_addU (pe_op op_mulU pe_int (pv 2)) pe_int) pa_nil))) (pv 2)))
      (pss_cons (ps_set (i := 4) sc__law_stand.nd rfl (.inl rfl) (pe_op op_sub (pe_callD D__law_pick hg (hr.mono (by decide)) (by rfl) (pa_cons (pv 0) (pa_cons (pe_op op_addU (pe_op op_mulU pe_int (pv 2)) pe_int) pa_nil))) (pv 2)))
      (pss_cons (ps_set (i := 4) sc__law_stand.nd rfl (.inl rfl) (pe_ix (r := rIx K) ix_seq (pe_lst (pa_cons (pe_callD D__law_under hg (hr.mono (by decide)) (by rfl) (pa_cons (pe_ix (r := rIx K) ix_seq (pv 1) pe_int (fun _ _ => rfl)) (pa_cons (pv 4) pa_nil))) (pa_cons (pe_op op_addU (pv 3) (pe_callD D__law_under hg (hr.mono (by decide)) (by rfl) (pa_cons (pe_ix (r := rIx K) ix_seq (pv 1) pe_int (fun _ _ => rfl)) (pa_cons (pe_op op_sub (pv 4) (pv 3)) pa_nil)))) pa_nil))) (pe_callD D__law_pick hg (hr.mono (by decide)) (by rfl) (pa_cons (pv 0) (pa_cons pe_int pa_nil))) (fun _ _ => rfl)))
      (pss_one (ps_ret (pe_tup (pa_cons (pv 4) (pa_cons (pv 3) pa_nil))))))))), ?_⟩)
  · obtain ⟨a, n, rfl, _⟩ := h; rfl
  · intro c p pl ds k hp h
    obtain ⟨⟨v, far⟩, n, rfl, ⟨ok, f0, f1⟩, hP, hn, h⟩ := h
    have ok' : v.Ok := ok
    have f0' : 1 ≤ far := f0
    have f1' : far ≤ 10 ^ 37 := f1
    have b200 : 2 * (10 : Int) ^ 37 + 1 < 2 ^ 200 := by decide +kernel
    have b38 : 3 * (10 : Int) ^ 37 + 100 < 10 ^ 38 := by decide +kernel
    walk_at "nz"
    refine ws_seq (ws_set (we_op ?_))
    refine we_draw (2 * far + 1) n rfl hp ?_
    refine wa_cons (we_op (we_op (we_int (we_var rfl ?_))))
    refine os_mulI (mulw 20 200 (by decide) (by decide) (by omega) (by omega) (by decide) (by decide) (by decide)) ?_
    refine we_int (os_addI ?_)
    refine wa_nil ⟨rfl, ⟨by omega, by omega⟩, hP, by show n < 9000000; omega, fun v1 pl1 v10 v11 hP1 => ?_⟩
    refine we_var rfl (os_sub ?_)
    obtain ⟨arm, harm⟩ : ∃ x, v1 - far = x := ⟨_, rfl⟩
    rw [harm]
    walk_at "nz"
    refine ws_seq (ws_set (we_op ?_))
    refine we_draw (2 * far + 1) (n + 1) rfl hp ?_
    refine wa_cons (we_op (we_op (we_int (we_var rfl ?_))))
    refine os_mulI (mulw 20 200 (by decide) (by decide) (by omega) (by omega) (by decide) (by decide) (by decide)) ?_
    refine we_int (os_addI ?_)
    refine wa_nil ⟨rfl, ⟨by omega, by omega⟩, hP1, by omega, fun v2 pl2 v20 v21 hP2 => ?_⟩
    refine we_var rfl (os_sub ?_)
    obtain ⟨x, hx⟩ : ∃ x, v2 - far = x := ⟨_, rfl⟩
    rw [hx]
    have g1 := flo_near ok'.1 x
    have g2 := flo_near ok'.2 (x - arm)
    walk_at "nz"
    refine ws_seq (ws_set (we_op (we_lst ?_)))
    walk_at "go"
    refine we_det (v.1, x) ?_
    walk_at "go"
    refine ⟨ok'.1, ?_⟩
    walk_at "go"
    refine we_det (v.2, x - arm) ?_
    walk_at "go"
    refine ⟨ok'.2, ?_⟩
    walk_at "go"
    refine we_draw 2 (n + 2) rfl hp ?_
    walk_at "go"
    refine ⟨hP2, by omega, fun v3 pl3 v30 v31 hP3 => ?_⟩
    walk_at "nz"
    refine os_pick (fun d => ∃ y : Int, d = .int y ∧ held v (y, arm) = true ∧ y.natAbs ≤ 10 ^ 38) v30 v31 ?_ ?_
    · intro d hd
      simp only [List.mem_cons, List.not_mem_nil, or_false] at hd
      rcases hd with rfl | rfl
      · refine ⟨_, rfl, ?_, by show (flo v.1 x).natAbs ≤ _; omega⟩
        unfold held
        rw [show caught v.1 (flo v.1 x, arm).1 = true from (flo_spec ok'.1 x).2.1]
        rfl
      · refine ⟨_, rfl, ?_, by show (arm + flo v.2 (x - arm)).natAbs ≤ _; omega⟩
        unfold held
        rw [show (arm + flo v.2 (x - arm), arm).1 - (arm + flo v.2 (x - arm), arm).2 = flo v.2 (x - arm) by show arm + flo v.2 (x - arm) - arm = _; omega, (flo_spec ok'.2 (x - arm)).2.1, Bool.or_true]
    rintro _ ⟨y, rfl, hy, yb⟩
    walk_at "go"
    exact h _ _ ⟨(y, arm), rfl, hy, yb, by show arm.natAbs ≤ _; omega⟩ (hP3.up (by show n + 2 + 1 ≤ n + 3; omega))

theorem ok__law_steps (T : Tx K mg) (D__law_pick : D__law_pick_ P w K mg base) {f : Addr} {fd : FuncData} (F : Here K mg "_law_steps" s__law_steps ["jar", "many", "far"] f fd) : D__law_steps_ P w K mg base := by
  refine F.df (fgO F.1 sc__law_steps (fun pl ds k h => ?_) fun cdv B fr s H E hg hr => ⟨_, ((pss_cons (ps_set (i := 3) sc__law_steps.nd rfl (.inl rfl) (pe_lst pa_nil))
      (pss_cons (ps_for PassesOwn.never rfl (pi_range1 (by rfl) T.n_range (pa_cons (pe_callD D__law_pick hg (hr.mono (by decide)) (by rfl) (pa_cons (pv 0) (pa_cons (pe_op op_addU (pv 1) pe_int) pa_nil))) pa_nil)) (pg_name (i := 4) sc__law_steps.nd rfl (.inl rfl)) (pss_cons (ps_set (i := 5) sc__law_steps.nd rfl (.inl rfl) (pe_op op_addU pe_int (pe_callD D__law_pick hg (hr.mono (by decide)) (by rfl) (pa_cons (pv 0) (pa_cons (pe_ix (r := rIx K) ix_seq (pe_lst (pa_cons pe_int (pa_cons pe_int (pa_cons (pv 2) pa_nil)))) (pe_callD D__law_pick hg (hr.mono (by decide)) (by rfl) (pa_cons (pv 0) (pa_cons pe_int pa_nil))) (fun _ _ => rfl)) pa_nil)))))
      (pss_one (ps_expr (pe_bm PySem.F.plainAttrs_list PySem.F.slot_list_append PySem.F.type_list_append mt_append (pv 3) (pa_cons (pe_op op_mulU (pv 5) (pe_ix (r := rIx K) ix_seq (pe_lst (pa_cons pe_int (pa_cons (pe_un un_neg pe_int) pa_nil))) (pe_callD D__law_pick hg (hr.mono (by decide)) (by rfl) (pa_cons (pv 0) (pa_cons pe_int pa_nil))) (fun _ _ => rfl))) pa_nil))))))
      (pss_one (ps_ret (pv 3)))))), ?_⟩)
  · obtain ⟨a, n, rfl, _⟩ := h; rfl
  · intro c p pl ds k hp h
    obtain ⟨⟨many, far⟩, n, rfl, ⟨m0, m1, f0, f1⟩, hP, hn, h⟩ := h
    have m0' : 1 ≤ many := m0
    have m1' : many ≤ 40 := m1
    have f0' : 1 ≤ far := f0
    have f1' : far ≤ 10 ^ 37 := f1
    have b200 : (10 : Int) ^ 37 + 50 < (2 : Int) ^ 200 := by decide +kernel
    have b38 : (10 : Int) ^ 37 + 50 ≤ 10 ^ 38 := by decide +kernel
    walk_at "nz"
    refine ws_seq (ws_setO (wa_nil ⟨Nat.zero_le _, ?_⟩))
    walk_at "nz"
    refine ws_seq ?_
    refine ws_forR1E (fun N => (N : Int) ≤ many) (fun i ds' pl' => ∃ (F : List Int) (x y : _), ds' = [some (.v (.ref p)), some (.d (.int many)), some (.d (.int far)), some (.o (F.map PyData.int)), x, y] ∧ F.length = i ∧ (∀ m ∈ F, m ≠ 0 ∧ m.natAbs ≤ 10 ^ 38) ∧ Pk (n + 1 + 3 * i) pl') ?_ ?_ ?_
    · refine wa_cons ?_
      refine we_draw (many + 1) n rfl hp ?_
      refine wa_cons (we_op (we_var rfl (we_int (os_addI ?_))))
      refine wa_nil ⟨rfl, ⟨by omega, by omega⟩, hP, by omega, fun v1 pl1 v10 v11 hP1 => ?_⟩
      refine wa_nil ⟨v1.toNat, by rw [Int.toNat_of_nonneg (by omega)], by omega, by omega, [], _, _, rfl, rfl, (fun m hm => nomatch hm), hP1⟩
    · rintro N N1 i ds' pl' hi ⟨F, x, y, rfl, fl, fm, hPi⟩
      walk_at "nz"
      refine ws_seq (ws_set (we_op (we_int (we_poolE rfl hp ?_))))
      refine wa_cons (we_op ?_)
      repeat (first | walk_at "pd" | with_reducible refine we_lst ?_)
      refine we_draw 3 (n + 1 + 3 * i) rfl hp ?_
      walk_at "go"
      refine ⟨hPi, by omega, fun v2 pl2 v20 v21 hP2 => ?_⟩
      refine os_pick (fun x => ∃ j : Int, x = .int j ∧ 1 ≤ j ∧ j ≤ 10 ^ 37 + 40) v20 v21 ?_ ?_
      · intro x hx
        simp only [List.mem_cons, List.not_mem_nil, or_false] at hx
        rcases hx with rfl | rfl | rfl <;> exact ⟨_, rfl, by omega, by omega⟩
      rintro _ ⟨top, rfl, tp0, tp1⟩
      refine wa_nil ⟨top, rfl, ⟨by omega, by omega⟩, n + 1 + 3 * i + 1, hP2, by omega, fun d3 pl3 q3 hP3 => ?_⟩
      obtain ⟨v3, rfl, v30, v31⟩ := q3
      refine os_addI ?_
      walk_at "nz"
      refine ws_app (xs := F.map PyData.int) rfl ?_
      refine we_op (we_var rfl (we_op ?_))
      repeat (first | walk_at "pd" | with_reducible refine we_lst ?_)
      refine we_draw 2 (n + 1 + 3 * i + 2) rfl hp ?_
      walk_at "go"
      refine ⟨hP3, by omega, fun v5 pl5 v50 v51 hP6 => ?_⟩
      refine os_pick (fun x => ∃ j : Int, x = .int j ∧ (j = 1 ∨ j = -1)) v50 v51 ?_ ?_
      · intro x hx
        simp only [List.mem_cons, List.not_mem_nil, or_false] at hx
        rcases hx with rfl | rfl <;> exact ⟨_, rfl, by omega⟩
      rintro _ ⟨sg, rfl, sg1⟩
      refine os_mulI (mulw 200 2 (by omega) (by omega) (by omega) (by omega) (by decide) (by decide) (by decide)) ?_
      refine ⟨by rw [List.length_map]; exact Nat.lt_of_le_of_lt (show _ ≤ 100 by omega) (by decide), F ++ [(1 + v3) * sg], some (.d (.int (i : Int))), some (.d (.int (1 + v3))), by rw [List.map_append]; rfl, by rw [List.length_append, fl]; rfl, fun m hm => ?_, hP6.up (by omega)⟩
      rcases List.mem_append.mp hm with z | z
      · exact fm m z
      · rw [List.mem_singleton.mp z]
        rcases sg1 with rfl | rfl
        · constructor <;> omega
        · constructor <;> omega
    rintro N N1 ds' pl' ⟨F, x, y, rfl, fl, fm, hPi⟩
    refine ws_retO (i := 3) rfl ?_
    exact h _ _ ⟨F, rfl, by rw [fl]; exact N1, fm⟩ (hPi.up (by show n + 1 + 3 * N ≤ n + 200; omega))

theorem ok__law_round (T : Tx K mg) (D__law_pick : D__law_pick_ P w K mg base) {f : Addr} {fd : FuncData} (F : Here K mg "_law_round" s__law_round ["jar", "many", "far"] f fd) : D__law_round_ P w K mg base := by
  refine F.df (fgO F.1 sc__law_round (fun pl ds k h => ?_) fun cdv B fr s H E hg hr => ⟨_, ((pss_cons (ps_set (i := 3) sc__law_round.nd rfl (.inl rfl) (pe_lst pa_nil))
      (pss_cons (ps_for PassesOwn.never rfl (pi_range1 (by rfl) T.n_range (pa_cons (pe_op op_addU pe_int (pe_callD D__law_pick hg (hr.mono (by decide)) (by rfl) (pa_cons (pv 0) (pa_cons (pv 1) pa_nil)))) pa_nil)) (pg_name (i := 4) sc__law_round.nd rfl (.inl rfl)) (pss_cons (ps_set (i := 5) sc__law_round.nd rfl (.inl rfl) (pe_op op_addU pe_int (pe_callD D__law_pick hg (hr.mono (by decide)) (by rfl) (pa_cons (pv 0) (pa_cons (pe_ix (r := rIx K) ix_seq (pe_lst (pa_cons pe_int (pa_cons pe_int (pa_cons (pv 2) pa_nil)))) (pe_callD D__law_pick hg (hr.mono (by decide)) (by rfl) (pa_cons (pv 0) (pa_cons pe_int pa_nil))) (fun _ _ => rfl)) pa_nil)))))
      (pss_one (ps_expr (pe_bm PySem.F.plainAttrs_list PySem.F.slot_list_append PySem.F.type_list_append mt_append (pv 3) (pa_cons (pe_op op_mulU (pv 5) (pe_ix (r := rIx K) ix_seq (pe_lst (pa_cons pe_int (pa_cons (pe_un un_neg pe_int) pa_nil))) (pe_callD D__law_pick hg (hr.mono (by decide)) (by rfl) (pa_cons (pv 0) (pa_cons pe_int pa_nil))) (fun _ _ => rfl))) pa_nil))))))
      (pss_cons (ps_set (i := 6) sc__law_round.nd rfl (.inl rfl) (pe_op op_sub pe_int (pe_callB (r := rSum K) (cr_sum rfl) (by rfl) T.n_sum (by decide +kernel) (pa_cons (pv 3) pa_nil))))
      (pss_one (ps_ret (pe_ifExp (pt_cmpR (r := rNeU K) (op_neU hr.units) (pv 6) pe_int (nomark _)) (pe_op op_addU (pv 3) (pe_lst (pa_cons (pv 6) pa_nil))) (pe_op op_addU (pv 3) (pe_lst (pa_cons pe_int (pa_cons (pe_un un_neg pe_int) pa_nil))))))))))), ?_⟩)
  · obtain ⟨a, n, rfl, _⟩ := h; rfl
  · intro c p pl ds k hp h
    obtain ⟨⟨many, far⟩, n, rfl, ⟨m0, m1, f0, f1⟩, hP, hn, h⟩ := h
    have m0' : 1 ≤ many := m0
    have m1' : many ≤ 39 := m1
    have f0' : 1 ≤ far := f0
    have f1' : far ≤ 10 ^ 38 := f1
    have b200 : (10 : Int) ^ 38 + 50 < (2 : Int) ^ 200 := by decide +kernel
    walk_at "nz"
    refine ws_seq (ws_setO (wa_nil ⟨Nat.zero_le _, ?_⟩))
    walk_at "nz"
    refine ws_seq ?_
    refine ws_forR1E (fun N => 1 ≤ N ∧ (N : Int) ≤ many) (fun i ds' pl' => ∃ (F : List Int) (x y : _), ds' = [some (.v (.ref p)), some (.d (.int many)), some (.d (.int far)), some (.o (F.map PyData.int)), x, y, none] ∧ F.length = i ∧ (∀ m ∈ F, m ≠ 0 ∧ m.natAbs ≤ 10 ^ 38 + 40) ∧ Pk (n + 1 + 3 * i) pl') ?_ ?_ ?_
    · refine wa_cons (we_op (we_int ?_))
      refine we_draw many n rfl hp ?_
      walk_at "go"
      refine ⟨⟨by omega, by omega⟩, hP, by omega, fun v1 pl1 v10 v11 hP1 => ?_⟩
      refine os_addI ?_
      refine wa_nil ⟨(1 + v1).toNat, by rw [Int.toNat_of_nonneg (by omega)], by omega, ⟨by omega, by omega⟩, [], _, _, rfl, rfl, (fun m hm => nomatch hm), hP1⟩
    · rintro N ⟨N0, N1⟩ i ds' pl' hi ⟨F, x, y, rfl, fl, fm, hPi⟩
      walk_at "nz"
      refine ws_seq (ws_set (we_op (we_int (we_poolE rfl hp ?_))))
      refine wa_cons (we_op ?_)
      repeat (first | walk_at "pd" | with_reducible refine we_lst ?_)
      refine we_draw 3 (n + 1 + 3 * i) rfl hp ?_
      walk_at "go"
      refine ⟨hPi, by omega, fun v2 pl2 v20 v21 hP2 => ?_⟩
      refine os_pick (fun x => ∃ j : Int, x = .int j ∧ 1 ≤ j ∧ j ≤ 10 ^ 38 + 40) v20 v21 ?_ ?_
      · intro x hx
        simp only [List.mem_cons, List.not_mem_nil, or_false] at hx
        rcases hx with rfl | rfl | rfl <;> exact ⟨_, rfl, by omega, by omega⟩
      rintro _ ⟨top, rfl, tp0, tp1⟩
      refine wa_nil ⟨top, rfl, ⟨by omega, by omega⟩, n + 1 + 3 * i + 1, hP2, by omega, fun d3 pl3 q3 hP3 => ?_⟩
      obtain ⟨v3, rfl, v30, v31⟩ := q3
      refine os_addI ?_
      walk_at "nz"
      refine ws_app (xs := F.map PyData.int) rfl ?_
      refine we_op (we_var rfl (we_op ?_))
      repeat (first | walk_at "pd" | with_reducible refine we_lst ?_)
      refine we_draw 2 (n + 1 + 3 * i + 2) rfl hp ?_
      walk_at "go"
      refine ⟨hP3, by omega, fun v5 pl5 v50 v51 hP6 => ?_⟩
      refine os_pick (fun x => ∃ j : Int, x = .int j ∧ (j = 1 ∨ j = -1)) v50 v51 ?_ ?_
      · intro x hx
        simp only [List.mem_cons, List.not_mem_nil, or_false] at hx
        rcases hx with rfl | rfl <;> exact ⟨_, rfl, by omega⟩
      rintro _ ⟨sg, rfl, sg1⟩
      refine os_mulI (mulw 200 2 (by omega) (by omega) (by omega) (by omega) (by decide) (by decide) (by decide)) ?_
      refine ⟨by rw [List.length_map]; exact Nat.lt_of_le_of_lt (show _ ≤ 100 by omega) (by decide), F ++ [(1 + v3) * sg], some (.d (.int (i : Int))), some (.d (.int (1 + v3))), by rw [List.map_append]; rfl, by rw [List.length_append, fl]; rfl, fun m hm => ?_, hP6.up (by omega)⟩
      rcases List.mem_append.mp hm with z | z
      · exact fm m z
      · rw [List.mem_singleton.mp z]
        rcases sg1 with rfl | rfl
        · constructor <;> omega
        · constructor <;> omega
    rintro N ⟨N0, N1⟩ ds' pl' ⟨F, x, y, rfl, fl, fm, hPi⟩
    have sb : F.sum.natAbs ≤ 10 ^ 40 := by
      have h1 := Nat.le_trans (sum_abs F) (absS_le fun m hm => (fm m hm).2)
      have h2 : F.length * (10 ^ 38 + 40) ≤ 39 * (10 ^ 38 + 40) := Nat.mul_le_mul_right _ (by omega)
      omega
    refine ws_frz (i := 3) rfl ?_
    walk_at "nz"
    refine ws_seq (ws_set (we_op (we_int ?_)))
    walk_at "go"
    refine cb_sum ?_
    refine os_sub ?_
    walk_at "nz"
    refine ws_ret ?_
    refine we_if ?_
    walk_at "go"
    refine ite2 (fun hb => ?_) (fun hb => ?_)
    · have r0 : ¬ 0 - F.sum = 0 := by simpa using hb
      walk_at "go"
      refine we_lst ?_
      walk_at "go"
      refine os_addL (by rw [List.length_map]; exact Nat.le_trans (show F.length + 1 ≤ 100 by omega) (by decide)) ?_
      refine h _ _ ⟨F ++ [0 - F.sum], by rw [List.map_append]; rfl, by simp, by rw [List.sum_append]; show F.sum + (0 - F.sum + 0) = 0; omega, by rw [List.length_append]; show ((F.length + 1 : Nat) : Int) ≤ many + 2; omega, fun m hm => ?_⟩ (hPi.up (by show n + 1 + 3 * N ≤ n + 200; omega))
      rcases List.mem_append.mp hm with z | z
      · have := fm m z
        exact ⟨this.1, by omega⟩
      · rw [List.mem_singleton.mp z]
        constructor <;> omega
    · have r0 : F.sum = 0 := by
        have : 0 - F.sum = 0 := by simpa using hb
        omega
      walk_at "go"
      refine we_lst ?_
      walk_at "go"
      refine os_addL (by rw [List.length_map]; exact Nat.le_trans (show F.length + 2 ≤ 100 by omega) (by decide)) ?_
      refine h _ _ ⟨F ++ [7, -7], by rw [List.map_append]; rfl, by simp, by rw [List.sum_append, r0]; rfl, by rw [List.length_append]; show ((F.length + 2 : Nat) : Int) ≤ many + 2; omega, fun m hm => ?_⟩ (hPi.up (by show n + 1 + 3 * N ≤ n + 200; omega))
      rcases List.mem_append.mp hm with z | z
      · have := fm m z
        exact ⟨this.1, by omega⟩
      · simp only [List.mem_cons, List.not_mem_nil, or_false] at z
        rcases z with rfl | rfl <;> exact ⟨by decide, by decide⟩

theorem ok_check_least (T : Tx K mg) (D_check_whole : D_check_whole_ P w K mg base) {f : Addr} {fd : FuncData} (F : Here K mg "check_least" s_check_least ["value", "least", "name"] f fd) : D_check_least_ P w K mg base := by
  refine F.df (fgP F.1 sc_check_least (fun ds k h => ?_) fun cdv B fr s H E hg hr => ⟨_, ((pss_cons (ps_expr (pe_callD D_check_whole hg (hr.mono (by decide)) (by rfl) (pa_cons (pv 0) (pa_cons (pv 2) pa_nil))))
      (pss_one (ps_if (pt_cmpR op_lt (pv 0) (pv 1) (nomark _)) (pss_one ps_never) pss_nil)))), ?_⟩)
  · obtain ⟨a, rfl, _⟩ := h; rfl
  · intro c ds k hc h
    obtain ⟨⟨x, l, y⟩, rfl, pre, h⟩ := h
    have pre' : ¬ x < l := Int.not_lt.mpr pre
    walk_at "go"
    refine we_det (x, y) ?_
    walk_at "go"
    refine iteN (decide_eq_false pre') ?_
    walk_at "go"
    exact h

theorem ok_check_comb (T : Tx K mg) (D_are_teeth : D_are_teeth_ P w K mg base) (D_is_pair : D_is_pair_ P w K mg base) (D_is_pitch : D_is_pitch_ P w K mg base) {f : Addr} {fd : FuncData} (F : Here K mg "check_comb" s_check_comb ["comb"] f fd) : D_check_comb_ P w K mg base := by
  refine F.df (fgP F.1 sc_check_comb (fun ds k h => ?_) fun cdv B fr s H E hg hr => ⟨_, ((pss_cons (ps_if (pt_not (pt_val (pe_callD D_is_pair hg (hr.mono (by decide)) (by rfl) (pa_cons (pv 0) pa_nil)))) (pss_one ps_never) pss_nil)
      (pss_cons (ps_asg (pv 0) (pg_tup (n := 2) rfl (pgs_cons (pg_name (i := 1) sc_check_comb.nd rfl (.inl rfl)) (pgs_cons (pg_name (i := 2) sc_check_comb.nd rfl (.inl rfl)) pgs_nil))))
      (pss_cons (ps_if (pt_not (pt_val (pe_callD D_is_pitch hg (hr.mono (by decide)) (by rfl) (pa_cons (pv 1) pa_nil)))) (pss_one ps_never) pss_nil)
      (pss_one (ps_if (pt_not (pt_val (pe_callD D_are_teeth hg (hr.mono (by decide)) (by rfl) (pa_cons (pv 2) (pa_cons (pv 1) pa_nil))))) (pss_one ps_never) pss_nil)))))), ?_⟩)
  · obtain ⟨a, rfl, _⟩ := h; rfl
  · intro c ds k hc h
    obtain ⟨cb, rfl, ok, h⟩ := h
    have ok' : cb.Ok := ok
    have ip : isPitch (.int cb.p) = true := by unfold isPitch; exact decide_eq_true ⟨ok'.p1, ok'.p24⟩
    walk_at "go"
    refine we_det cb.d ?_
    walk_at "go"
    refine we_det (.int cb.p) ?_
    walk_at "go"
    refine iteN (by rw [ip]; rfl) ?_
    walk_at "go"
    refine we_det cb ?_
    walk_at "go"
    refine ⟨ok', ?_⟩
    walk_at "go"
    exact h

theorem ok_is_comb (T : Tx K mg) (D_are_teeth : D_are_teeth_ P w K mg base) (D_is_pair : D_is_pair_ P w K mg base) (D_is_pitch : D_is_pitch_ P w K mg base) {f : Addr} {fd : FuncData} (F : Here K mg "is_comb" s_is_comb ["value"] f fd) : D_is_comb_ P w K mg base := by
  refine F.df (fgP F.1 sc_is_comb (fun ds k h => ?_) fun cdv B fr s H E hg hr => ⟨_, ((pss_one (ps_ret (pe_and (pe_callD D_is_pair hg (hr.mono (by decide)) (by rfl) (pa_cons (pv 0) pa_nil)) (pe_and (pe_callD D_is_pitch hg (hr.mono (by decide)) (by rfl) (pa_cons (pe_ix (r := rIx K) ix_seq (pv 0) pe_int (fun _ _ => rfl)) pa_nil)) (pe_one (pe_callD D_are_teeth hg (hr.mono (by decide)) (by rfl) (pa_cons (pe_ix (r := rIx K) ix_seq (pv 0) pe_int (fun _ _ => rfl)) (pa_cons (pe_ix (r := rIx K) ix_seq (pv 0) pe_int (fun _ _ => rfl)) pa_nil))))))))), ?_⟩)
  · obtain ⟨a, rfl, _⟩ := h; rfl
  · intro c ds k hc h
    obtain ⟨cb, rfl, ok, h⟩ := h
    walk_at "go"
    refine we_det cb.d ?_
    walk_at "go"
    refine we_det (.int cb.p) ?_
    walk_at "go"
    have e : isPitch (.int cb.p) = true := decide_eq_true ⟨Comb.Ok.p1 ok, Comb.Ok.p24 ok⟩
    rw [e]
    walk_at "go"
    refine we_det cb ?_
    walk_at "go"
    exact ⟨ok, h⟩

theorem ok_fits_device (T : Tx K mg) (D_is_held : D_is_held_ P w K mg base) (D_is_whole_pair : D_is_whole_pair_ P w K mg base) {f : Addr} {fd : FuncData} (F : Here K mg "fits_device" s_fits_device ["device", "value"] f fd) : D_fits_device_ P w K mg base := by
  refine F.df (fgP F.1 sc_fits_device (fun ds k h => ?_) fun cdv B fr s H E hg hr => ⟨_, ((pss_one (ps_ret (pe_and (pe_callD D_is_whole_pair hg (hr.mono (by decide)) (by rfl) (pa_cons (pv 1) pa_nil)) (pe_one (pe_callD D_is_held hg (hr.mono (by decide)) (by rfl) (pa_cons (pv 0) (pa_cons (pe_ix (r := rIx K) ix_seq (pv 1) pe_int (fun _ _ => rfl)) (pa_cons (pe_ix (r := rIx K) ix_seq (pv 1) pe_int (fun _ _ => rfl)) pa_nil))))))))), ?_⟩)
  · obtain ⟨a, rfl, _⟩ := h; rfl
  · intro c ds k hc h
    obtain ⟨⟨v, s⟩, rfl, ok, h⟩ := h
    walk_at "go"
    refine we_det (s.d) ?_
    walk_at "go"
    refine we_det (v, s) ?_
    walk_at "go"
    exact ⟨ok, h⟩

theorem ok_device_slacks (T : Tx K mg) (D_comb_slacks : D_comb_slacks_ P w K mg base) {f : Addr} {fd : FuncData} (F : Here K mg "device_slacks" s_device_slacks ["device"] f fd) : D_device_slacks_ P w K mg base := by
  refine F.df (fgP F.1 sc_device_slacks (fun ds k h => ?_) fun cdv B fr s H E hg hr => ⟨_, ((pss_cons (ps_asg (pv 0) (pg_tup (n := 2) rfl (pgs_cons (pg_name (i := 1) sc_device_slacks.nd rfl (.inl rfl)) (pgs_cons (pg_name (i := 2) sc_device_slacks.nd rfl (.inl rfl)) pgs_nil))))
      (pss_one (ps_ret (pe_tup (pa_cons (pe_callD D_comb_slacks hg (hr.mono (by decide)) (by rfl) (pa_cons (pv 1) pa_nil)) (pa_cons (pe_callD D_comb_slacks hg (hr.mono (by decide)) (by rfl) (pa_cons (pv 2) pa_nil)) pa_nil))))))), ?_⟩)
  · obtain ⟨a, rfl, _⟩ := h; rfl
  · intro c ds k hc h
    obtain ⟨v, rfl, ok, h⟩ := h
    have ok' : v.Ok := ok
    walk_at "go"
    refine we_det v.1 ?_
    walk_at "go"
    refine ⟨ok'.1, ?_⟩
    walk_at "go"
    refine we_det v.2 ?_
    walk_at "go"
    refine ⟨ok'.2, ?_⟩
    walk_at "go"
    exact h

theorem ok_slack_mean (T : Tx K mg) (D_cycle_rise : D_cycle_rise_ P w K mg base) (D_repeated_heights : D_repeated_heights_ P w K mg base) {f : Addr} {fd : FuncData} (F : Here K mg "slack_mean" s_slack_mean ["slacks", "hand", "moves"] f fd) : D_slack_mean_ P w K mg base := by
  refine F.df (fgP F.1 sc_slack_mean (fun ds k h => ?_) fun cdv B fr s H E hg hr => ⟨_, ((pss_cons (ps_asg (pv 0) (pg_tup (n := 2) rfl (pgs_cons (pg_name (i := 3) sc_slack_mean.nd rfl (.inl rfl)) (pgs_cons (pg_name (i := 4) sc_slack_mean.nd rfl (.inl rfl)) pgs_nil))))
      (pss_cons (ps_asg (pe_callD D_repeated_heights hg (hr.mono (by decide)) (by rfl) (pa_cons (pv 0) (pa_cons (pe_tup (pa_cons (pe_bm PySem.F.plainAttrs_list PySem.F.slot_list_index PySem.F.type_list_index (mt_indexD (hu65 hr)) (pv 3) (pa_cons pe_int pa_nil)) (pa_cons (pv 1) pa_nil))) (pa_cons (pv 2) pa_nil)))) (pg_tup (n := 2) rfl (pgs_cons (pg_name (i := 5) sc_slack_mean.nd rfl (.inl rfl)) (pgs_cons (pg_name (i := 6) sc_slack_mean.nd rfl (.inl rfl)) pgs_nil))))
      (pss_cons (ps_asg (pe_callD D_cycle_rise hg (hr.mono (by decide)) (by rfl) (pa_cons (pv 5) (pa_cons (pv 6) pa_nil))) (pg_tup (n := 2) rfl (pgs_cons (pg_name (i := 7) sc_slack_mean.nd rfl (.inl rfl)) (pgs_cons (pg_name (i := 8) sc_slack_mean.nd rfl (.inl rfl)) pgs_nil))))
      (pss_cons (ps_set (i := 9) sc_slack_mean.nd rfl (.inl rfl) (pe_callBfun cr_gcd (by rfl) T.b_gcd (pa_cons (pv 8) (pa_cons (pv 7) pa_nil))))
      (pss_one (ps_ret (pe_tup (pa_cons (pe_op op_fdivW (pv 8) (pv 9)) (pa_cons (pe_op op_fdivW (pv 7) (pv 9)) pa_nil)))))))))), ?_⟩)
  · obtain ⟨a, rfl, _⟩ := h; rfl
  · intro c ds k hc h
    obtain ⟨⟨v, hand, ms⟩, rfl, ok, h⟩ := h
    have ok' : v.Ok := ok
    obtain ⟨z0, hz0, ez0⟩ := sl_zero ok'.1
    subst ez0
    obtain ⟨j0, hj0, hj1⟩ := first_at hz0
    walk_at "nz"
    refine ws_seq ?_
    walk_at "go"
    refine we_rel (v, ((j0 : Int), hand), ms) ?_
    refine wa_cons (we_var rfl (wa_cons (we_tup (wa_cons ?_))))
    refine we_indexD (xs := (sl v.1).map PyData.int) rfl (shaped_of (okD_ints (n := 19) fun t ht => ?_)) (we_int ⟨rfl, j0, .int 0, by rw [List.getElem?_map, hj0]; rfl, rfl, fun m z' hm hz' => ?_, ?_⟩)
    · obtain ⟨r, hr, rfl⟩ := List.mem_map.mp ht
      have h1 := slk_nn ok'.1 (r : Int)
      have h2 := slk_lt ok'.1 (r : Int)
      have h3 := ok'.1.p24
      exact Nat.lt_of_le_of_lt (show (slk v.1 (r : Int)).natAbs ≤ 24 by omega) (by decide +kernel)
    · rw [List.getElem?_map] at hz'
      cases hq : (sl v.1)[m]? with
      | none => rw [hq] at hz'; cases hz'
      | some z =>
        rw [hq] at hz'
        cases hz'
        have := hj1 m z hm hq
        rw [eqv_int]
        exact beq_eq_false_iff_ne.mpr this
    walk_at "go"
    refine ⟨ok', fun d q => ?_⟩
    obtain ⟨n, j, cy, rfl⟩ := q
    have cy' : Cyc v ms ((j0 : Int), hand) n j := cy
    walk_at "go"
    refine we_det (v, ((j0 : Int), hand), ms, n, j) ?_
    walk_at "go"
    refine ⟨cy'.lt, ?_⟩
    walk_at "go"
    refine cb_gcd ?_
    obtain ⟨g, hg⟩ : ∃ g, ((Nat.gcd ((rp v ms ((j0 : Int), hand) n).1 - (rp v ms ((j0 : Int), hand) j).1).natAbs ((n : Int) - (j : Int)).natAbs : Nat) : Int) = g := ⟨_, rfl⟩
    obtain ⟨g0, g5, mn⟩ := cy'.mean ok' rfl rfl hg
    have g2 : g < (2 : Int) ^ 200 := Int.lt_of_le_of_lt g5 (by decide +kernel)
    rw [hg]
    walk_at "go"
    refine os_fdiv (divw _ g0 g2) ?_
    walk_at "go"
    refine os_fdiv (divw _ g0 g2) ?_
    walk_at "go"
    exact h _ ⟨_, _, mn, rfl⟩

theorem ok_heights_at (T : Tx K mg) (D_common_pitch : D_common_pitch_ P w K mg base) (D_is_held : D_is_held_ P w K mg base) {f : Addr} {fd : FuncData} (F : Here K mg "heights_at" s_heights_at ["device", "hand"] f fd) : D_heights_at_ P w K mg base := by
  refine F.df (fgP F.1 sc_heights_at (fun ds k h => ?_) fun cdv B fr s H E hg hr => ⟨_, ((pss_one (ps_ret (pe_lc (own := [("height", 2)]) rfl sc_heights_at.nd (pi_range1 (by rfl) T.n_range (pa_cons (pe_callD D_common_pitch hg (hr.mono (by decide)) (by rfl) (pa_cons (pv 0) pa_nil)) pa_nil)) (blkOk_by (N := ["device", "hand", "height"]) (sc := defScope s_heights_at) (by decide +kernel)) (fun _ _ _ _ _ => (pg_name (i := 2) sc_heights_at.nd rfl (Or.inl rfl) (Or.inr rfl))) (fun _ _ _ _ _ => (pts_one (pt_val (pe_callD D_is_held hg (hr.mono (by decide)) (by rfl) (pa_cons (pv 0) (pa_cons (pv 2) (pa_cons (pv 1) pa_nil))))))) (fun _ _ _ _ _ => (pv 2)))))), ?_⟩)
  · obtain ⟨a, rfl, _⟩ := h; rfl
  · intro c ds k hc h
    obtain ⟨⟨v, arm⟩, rfl, ok, h⟩ := h
    have ok' : v.Ok := ok
    have h' : k (.list ((heldL v arm).map PyData.int)) := h
    obtain ⟨cm, _⟩ := com_lcmV ok'
    have L0 := cm.pos
    have L5 := cm.le
    walk_at "nz"
    refine ws_ret ?_
    refine we_lcR (fun i acc pl' => pl' = [] ∧ acc = (heldN v arm i).map PyData.int) (lcmV v).toNat (no_of rfl _) ?_ ?_ ?_
    · refine wa_cons (we_det v (wa_cons (we_var rfl (wa_nil ⟨rfl, ok', ?_⟩))))
      exact wa_nil ⟨lcmV v, rfl, rfl, by omega, by omega, rfl, rfl⟩
    · rintro i acc pl' hi ⟨rfl, rfl⟩ pin
      have len : ((heldN v arm i).map PyData.int).length < sizeLine := by
        rw [List.length_map]
        exact Nat.lt_of_le_of_lt (Nat.le_trans (heldN_len v arm i) (show i ≤ 1000 by omega)) (by decide)
      have e := heldN_succ v arm i
      obtain ⟨i9, hi9⟩ : ∃ y : Int, (i : Int) = y := ⟨_, rfl⟩
      rw [hi9] at e ⊢
      rw [e]
      walk_at "nz"
      refine wt_T ?_
      refine we_det (v, (i9, arm)) (wa_cons (we_var rfl (wa_cons (we_var rfl (wa_cons (we_var rfl (wa_nil ⟨rfl, ok', ?_⟩)))))))
      show (if held v (i9, arm) = true then _ else _)
      cases q : held v (i9, arm) with
      | true =>
        refine iteV rfl ?_
        refine we_var rfl ⟨len, rfl, ?_⟩
        rw [if_pos rfl, List.map_append]
        rfl
      | false =>
        refine iteN rfl ?_
        refine ⟨rfl, ?_⟩
        rw [if_neg (by simp), List.append_nil]
    rintro acc pl' ⟨rfl, rfl⟩
    exact h'

theorem ok_check_height (T : Tx K mg) (D_is_held : D_is_held_ P w K mg base) (D_is_whole : D_is_whole_ P w K mg base) {f : Addr} {fd : FuncData} (F : Here K mg "check_height" s_check_height ["device", "hand", "height", "name"] f fd) : D_check_height_ P w K mg base := by
  refine F.df (fgP F.1 sc_check_height (fun ds k h => ?_) fun cdv B fr s H E hg hr => ⟨_, ((pss_one (ps_if (PW.pt (pw_or (pt_not (pt_val (pe_callD D_is_whole hg (hr.mono (by decide)) (by rfl) (pa_cons (pv 2) pa_nil)))) (pw_or1 (pt_not (pt_val (pe_callD D_is_held hg (hr.mono (by decide)) (by rfl) (pa_cons (pv 0) (pa_cons (pv 2) (pa_cons (pv 1) pa_nil))))))))) (pss_one ps_never) pss_nil))), ?_⟩)
  · obtain ⟨a, rfl, _⟩ := h; rfl
  · intro c ds k hc h
    obtain ⟨⟨v, s, nm⟩, rfl, ⟨ok, hh⟩, h⟩ := h
    have ok' : v.Ok := ok
    have hh' : held v s = true := hh
    have h' : k .none := h
    walk_at "nz"
    refine ws_if (wt_or (wt_not (wt_T ?_)))
    refine we_det (.int s.1) ?_
    walk_at "go"
    try refine ⟨trivial, ?_⟩
    walk_at "nz"
    try refine iteN rfl ?_
    refine we_det (v, s) ?_
    refine wa_cons (we_var rfl (wa_cons (we_var rfl (wa_cons (we_var rfl (wa_nil ⟨rfl, ok', ?_⟩))))))
    rw [show held ((v, s) : Dv × Sv).1 ((v, s) : Dv × Sv).2 = true from hh']
    walk_at "nz"
    refine iteN rfl ?_
    refine ws_next ?_
    exact h'

theorem ok_joining_trail (T : Tx K mg) (D_moved_place : D_moved_place_ P w K mg base) (D_single_moves : D_single_moves_ P w K mg base) (D_trail_back : D_trail_back_ P w K mg base) {f : Addr} {fd : FuncData} (F : Here K mg "joining_trail" s_joining_trail ["slacks", "first"] f fd) : D_joining_trail_ P w K mg base := by
  refine F.df (fgP F.1 sc_joining_trail (fun ds k h => ?_) fun cdv B fr s H E hg hr => ⟨_, ((pss_cons (ps_asg (pv 0) (pg_tup (n := 2) rfl (pgs_cons (pg_name (i := 2) sc_joining_trail.nd rfl (.inl rfl)) (pgs_cons (pg_name (i := 3) sc_joining_trail.nd rfl (.inl rfl)) pgs_nil))))
      (pss_cons (ps_set (i := 4) sc_joining_trail.nd rfl (.inl rfl) (pe_callBfun cr_lcm (by rfl) T.b_lcm (pa_cons (pe_callB (r := rLenQ K) call_len_seq (by rfl) T.n_len (by decide +kernel) (pa_cons (pv 2) pa_nil)) (pa_cons (pe_callB (r := rLenQ K) call_len_seq (by rfl) T.n_len (by decide +kernel) (pa_cons (pv 3) pa_nil)) pa_nil))))
      (pss_cons (ps_set (i := 5) sc_joining_trail.nd rfl (.inl rfl) (pe_callD D_single_moves hg (hr.mono (by decide)) (by rfl) (pa_cons (pv 0) pa_nil)))
      (pss_cons (ps_set (i := 6) sc_joining_trail.nd rfl (.inl rfl) (pe_disp1T (hu_of hr) (pv 1) pe_non))
      (pss_cons (ps_set (i := 7) sc_joining_trail.nd rfl (.inl rfl) (pe_lst (pa_cons (pv 1) pa_nil)))
      (pss_cons (ps_while PassesOwn.never (pt_truth (pv 7) (by intro _; rfl)) (pss_cons (ps_set (i := 8) sc_joining_trail.nd rfl (.inl rfl) (pe_lst pa_nil))
      (pss_cons (ps_for PassesOwn.never rfl (pi_list (pv 7)) (pg_name (i := 9) sc_joining_trail.nd rfl (.inl rfl)) (pss_cons (ps_if (pt_cmpR (r := rEqU K) (op_eqU hr.units) (pe_ix (r := rIx K) ix_seq (pv 9) pe_int (fun _ _ => rfl)) pe_int (nomark _)) (pss_one (ps_ret (pe_callD D_trail_back hg (hr.mono (by decide)) (by rfl) (pa_cons (pv 6) (pa_cons (pv 9) pa_nil))))) pss_nil)
      (pss_one (ps_for PassesOwn.never rfl (pi_list (pv 5)) (pg_name (i := 10) sc_joining_trail.nd rfl (.inl rfl)) (pss_cons (ps_set (i := 11) sc_joining_trail.nd rfl (.inl rfl) (pe_callD D_moved_place hg (hr.mono (by decide)) (by rfl) (pa_cons (pv 0) (pa_cons (pv 9) (pa_cons (pv 10) pa_nil)))))
      (pss_one (ps_if (PW.pt (pw_and (pt_cmpR op_lt (pe_ix (r := rIx K) ix_seq (pv 11) pe_int (fun _ _ => rfl)) (pv 4) (nomark _)) (pw_and1 (pt_cmp (pc_dnotin (hu_of hr) (pv 11) (pv 6)))))) (pss_cons (ps_dput (hu_of hr) (pv 6) (pv 11) (pe_tup (pa_cons (pv 9) (pa_cons (pe_ix (r := rIx K) ix_seq (pv 10) pe_int (fun _ _ => rfl)) pa_nil))) rfl)
      (pss_one (ps_expr (pe_bm PySem.F.plainAttrs_list PySem.F.slot_list_append PySem.F.type_list_append mt_append (pv 8) (pa_cons (pv 11) pa_nil))))) pss_nil)))))))
      (pss_one (ps_set (i := 7) sc_joining_trail.nd rfl (.inl rfl) (pv 8))))))
      (pss_one (ps_ret pe_non))))))))), ?_⟩)
  · obtain ⟨a, rfl, _⟩ := h; rfl
  · intro c ds k hc h
    obtain ⟨⟨v, s, g⟩, rfl, ⟨⟨ok, p8, q8⟩, g0, gl⟩, h⟩ := h
    have ok' : v.Ok := ok
    have p1 := ok'.1.p1
    have q1 := ok'.2.p1
    have p24 := ok'.1.p24
    have q24 := ok'.2.p24
    have fin : ∀ o, JoinM v s g o → k (oL o) := fun o z => h _ ⟨o, z, rfl⟩
    walk_at "nz"
    refine ws_of_wsk fun G0 D' ft => ?_
    refine wsk_seq (ws_unpN rfl (we_var rfl ⟨_, _, rfl, ?_⟩))
    walk_at "nz"
    refine wsk_seq (ws_set ?_)
    walk_at "go"
    have n1 : ((sl v.1).length : Int) = v.1.p := sl_len ok'.1
    have n2 : ((sl v.2).length : Int) = v.2.p := sl_len ok'.2
    rw [show (List.map PyData.int (sl v.1)).length = v.1.p.natAbs by rw [List.length_map]; omega, show (List.map PyData.int (sl v.2)).length = v.2.p.natAbs by rw [List.length_map]; omega]
    refine cb_lcm (Nat.lt_of_le_of_lt (show _ ≤ 100 by omega) (by decide)) (Nat.lt_of_le_of_lt (show _ ≤ 100 by omega) (by decide)) ?_
    rw [show ((Nat.lcm ((v.1.p.natAbs : Nat) : Int).natAbs ((v.2.p.natAbs : Nat) : Int).natAbs : Nat) : Int) = lcmV v from rfl]
    walk_at "nz"
    refine wsk_seq (ws_set (we_rel v (wa_cons (we_var rfl (wa_nil ⟨rfl, ok', ?_⟩)))))
    rintro sg ⟨A, B, a100, b100, hA, hB, rfl⟩
    walk_at "nz"
    refine wsk_dnew1 (j := 1) (ks := [(plc v s).1, (plc v s).2, g]) rfl fun p F => ?_
    walk_at "nz"
    refine wsk_seq (ws_setO (wa_cons (we_var rfl (wa_nil ⟨by show 1 ≤ sizeLine; decide, ?_⟩))))
    refine wsk_freeze (i := 7) rfl ?_
    walk_at "nz"
    have gl' : g < lcmV v := gl
    have g0' : 0 ≤ g := g0
    have lp : 0 < lcmV v := by omega
    obtain ⟨SG, hSG, hSGm⟩ : ∃ SG : List Int, ((List.range A).map (fun (k : Nat) => PyData.list [.int (1 + (k : Int))]) ++ (List.range B).map fun (k : Nat) => PyData.list [.int (-(1 + (k : Int)))]) = SG.map (fun m => PyData.list [.int m]) ∧ ∀ m, m ∈ SG ↔ Single A B m := by
      refine ⟨(List.range A).map (fun (k : Nat) => 1 + (k : Int)) ++ (List.range B).map (fun (k : Nat) => -(1 + (k : Int))), ?_, fun m => ?_⟩
      · rw [List.map_append, List.map_map, List.map_map]
        rfl
      · rw [List.mem_append, List.mem_map, List.mem_map]
        constructor
        · rintro (⟨k, h1, h2⟩ | ⟨k, h1, h2⟩)
          · exact .inl ⟨k, List.mem_range.mp h1, h2.symm⟩
          · exact .inr ⟨k, List.mem_range.mp h1, h2.symm⟩
        · rintro (⟨k, h1, h2⟩ | ⟨k, h1, h2⟩)
          · exact .inl ⟨k, List.mem_range.mpr h1, h2.symm⟩
          · exact .inr ⟨k, List.mem_range.mpr h1, h2.symm⟩
    rw [hSG]
    have fr : ∀ kvs : List (List Key × V), Fresh c (one p (.dT kvs)) := fun kvs a o q => by
      obtain ⟨rfl, rfl⟩ := one_some q
      exact F _ _ one_at
    have g00 : gapM v s g [] = g := by
      show s.1 + g - s.1 = g
      omega
    have e0 : kn (pOf v s g []) = [(plc v s).1, (plc v s).2, g] := by
      show [(plc v s).1, (plc v s).2, gapM v s g []] = _
      rw [g00]
    refine wsk_while_dG (fun G1 m kvs ds' pl' => ∃ (n : Nat) (L Wt : List ((Int × Int) × Int)) (x8 x9 x10 x11 : Option W), m = 2 * (400000 - L.length) + (if Wt = [] then 0 else 1) ∧ Sr v A B s g n G1 kvs L [] ∧ (∀ P, P ∈ Wt ↔ Lev v A B s g n P) ∧ (Wt = [] ∨ n + 1 ≤ L.length) ∧ (∀ k P, k < n → Lev v A B s g k P → P.2 ≠ 0) ∧ pl' = [] ∧
      ds' = [some (.d (slD v)), some (.d (pl3 v s g)), some (.d (.list ((sl v.1).map PyData.int))), some (.d (.list ((sl v.2).map PyData.int))), some (.d (.int (lcmV v))), some (.d (.list (SG.map (fun m => PyData.list [.int m])))), some (.v (.ref p)), some (.d (.list (Wt.map pD))), x8, x9, x10, x11]) (2 * (400000 - 1) + 1) F ?_ ?_
    · refine fun G e => ⟨0, [pOf v s g []], [pOf v s g []], none, none, none, none, ?_, ?_, fun P => ?_, .inr (Nat.le_refl _), fun k P hk => absurd hk (Nat.not_lt_zero _), rfl, ?_⟩
      · rfl
      · have := Sr.start (v := v) (A := A) (B := B) (s := s) (g := g) gl (G := G)
        rw [e0] at this
        exact this
      · rw [lev_zero gl]
        exact List.mem_singleton
      · rw [show List.map pD [pOf v s g []] = [pl3 v s g] by
          show [PyData.tuple ((kn (pOf v s g [])).map PyData.int)] = _
          rw [e0]
          rfl]
    rintro G1 m kvs ds' pl' e1 F1 ⟨n, L, Wt, x8, x9, x10, x11, rfl, sr, hW, hn, nz, rfl, rfl⟩
    have l4 := sr.few ok' g0
    refine wt_tru (we_var rfl ⟨rfl, fun hb => ?_, fun hb D2 D2r nxt => ?_⟩)
    · have w0 : Wt = [] := by
        cases Wt with
        | nil => rfl
        | cons a b => cases hb
      subst w0
      refine wsk_of_ws ?_ ((Fits.pinP (fr kvs) ft).up e1)
      walk_at "go"
      exact fin none (join_none ok' hA hB lp (fun k hk P => nz k P hk) fun P z => by have := (hW P).mpr z; cases this)
    have wn : Wt ≠ [] := fun z => by subst z; cases hb
    have nL : n + 1 ≤ L.length := hn.resolve_left wn
    walk_at "nz"
    refine wsk_seq (ws_setO (wa_nil ⟨by show 0 ≤ sizeLine; decide, ?_⟩))
    walk_at "nz"
    refine wsk_for_dG (l := 7) (j := 9) (fun G2 i kvs2 ds2 pl2 => ∃ (L2 Lt : List ((Int × Int) × Int)) (y9 y10 y11 : Option W), Sr v A B s g n G2 kvs2 L2 Lt ∧ L.length + Lt.length ≤ L2.length ∧ (∀ (j : Nat) P, Wt[j]? = some P → j < i → P.2 ≠ 0 ∧ ∀ m, Single A B m → (stp v P m).2 < lcmV v → stp v P m ∈ L2) ∧ pl2 = [] ∧
      ds2 = [some (.d (slD v)), some (.d (pl3 v s g)), some (.d (.list ((sl v.1).map PyData.int))), some (.d (.list ((sl v.2).map PyData.int))), some (.d (.int (lcmV v))), some (.d (.list (SG.map (fun m => PyData.list [.int m])))), some (.v (.ref p)), some (.d (.list (Wt.map pD))), some (.o (Lt.map pD)), y9, y10, y11]) rfl (fr kvs) ?_ ?_ ?_
    · exact fun G e => ⟨L, [], x9, x10, x11, sr.up e, Nat.le_refl _, fun j P _ z => absurd z (Nat.not_lt_zero _), rfl, rfl⟩
    · rintro G2 i x kvs2 ds2 pl2 hx e2 F2 ⟨L2, Lt, y9, y10, y11, sr2, ll2, cl2, rfl, rfl⟩ D3 D3r nxt3
      rw [List.getElem?_map] at hx
      obtain ⟨P, hP, hx⟩ := Option.map_eq_some_iff.mp hx
      subst hx
      have lP : Lev v A B s g n P := (hW P).mp (List.mem_of_getElem? hP)
      have l42 := sr2.few ok' g0
      walk_at "nz"
      refine wsk_ifS ?_
      refine wt_B (we_op (we_op (we_var rfl (we_int ?_))))
      refine os_ix (e := .int P.2) rfl ?_
      refine we_int (os_eqI ?_)
      walk_at "nz"
      refine ite2 (fun hb2 => ?_) (fun hb2 => ?_)
      · have p0 : P.2 = 0 := of_decide_eq_true hb2
        obtain ⟨ms, ml, sms, pms, bk⟩ := sr2.back lP
        intro D1 D1r
        intro G σ H hs0 e0
        unfold tRet
        rw [D1r, D3r, D2r]
        change tRet (tCall spBack [] _ (tCons (tVar 6) (tCons (tVar 9) tNil))) D' σ H
        exact wsk_retBack (id := 6) (ip := 9) (ks := kn P) rfl rfl bk (by omega) ((Fits.pinP (fr kvs2) ft).up (e1.trans e2)) (fin (some ms.reverse) (join_some ok' hA hB (fun m z => sms m (List.mem_reverse.mp z)) (by rw [← p0, ← pms]; rfl) lp (by rw [List.length_reverse, ml]; exact fun k hk P => nz k P hk))) G σ H hs0 e0
      have pn : P.2 ≠ 0 := fun z => hb2 (decide_eq_true z)
      refine wsk_tail ?_
      refine wsk_for_dG (l := 5) (j := 10) (fun G3 i3 kvs3 ds3 pl3' => ∃ (L3 Lt3 : List ((Int × Int) × Int)) (z10 z11 : Option W), Sr v A B s g n G3 kvs3 L3 Lt3 ∧ L.length + Lt3.length ≤ L3.length ∧ (∀ Q, Q ∈ L2 → Q ∈ L3) ∧ (∀ (j : Nat) m, SG[j]? = some m → j < i3 → (stp v P m).2 < lcmV v → stp v P m ∈ L3) ∧ pl3' = [] ∧
        ds3 = [some (.d (slD v)), some (.d (pl3 v s g)), some (.d (.list ((sl v.1).map PyData.int))), some (.d (.list ((sl v.2).map PyData.int))), some (.d (.int (lcmV v))), some (.d (.list (SG.map (fun m => PyData.list [.int m])))), some (.v (.ref p)), some (.d (.list (Wt.map pD))), some (.o (Lt3.map pD)), some (.d (pD P)), z10, z11]) rfl F2 ?_ ?_ ?_
      · exact fun G e => ⟨L2, Lt, y10, y11, sr2.up e, ll2, fun Q z => z, fun j m _ z => absurd z (Nat.not_lt_zero _), rfl, rfl⟩
      · rintro G3 i3 x3 kvs3 ds3 pl3' hx3 e3 F3 ⟨L3, Lt3, z10, z11, sr3, ll3, sub3, cl3, rfl, rfl⟩ D4 D4r nxt4
        rw [List.getElem?_map] at hx3
        obtain ⟨m, hm, hx3⟩ := Option.map_eq_some_iff.mp hx3
        subst hx3
        have sm : Single A B m := (hSGm m).mp (List.mem_of_getElem? hm)
        have l43 := sr3.few ok' g0
        obtain ⟨xs, _, _, exs, _⟩ := lP.ex
        have exs : pOf v s g xs = P := exs
        walk_at "nz"
        refine wsk_seq (ws_set (we_det (v, mvs v s xs, gapM v s g xs, [m]) ?_))
        refine wa_cons (we_var rfl (wa_cons (we_var rfl (wa_cons (we_var rfl (wa_nil ⟨?_, ok', ?_⟩))))))
        · rw [← exs]
          rfl
        have es : pl3 v (mvs v (mvs v s xs) [m]) (gapM v (mvs v s xs) (gapM v s g xs) [m]) = pD (stp v P m) := by
          rw [← exs, stp_of ok', ← pl3_of, mvs_app, gapM_app]
        show WSK _ _ (List.set _ 11 (some (.d (pl3 v (mvs v (mvs v s xs) [m]) (gapM v (mvs v s xs) (gapM v s g xs) [m]))))) _ _ _
        rw [es]
        walk_at "nz"
        refine wsk_if ?_
        refine wt_and ?_
        refine wt_B (we_op (we_op (we_var rfl (we_int ?_))))
        refine os_ix (e := .int (stp v P m).2) rfl ?_
        refine we_var rfl (os_lt ?_)
        refine ite2 (fun hlt => ?_) (fun hlt => ?_)
        · have hlt := of_decide_eq_true hlt
          refine wt_dnotin (id := 6) (ip := 11) (ks := kn (stp v P m)) rfl rfl ?_
          cases hv : valV kvs3 (pkN (kn (stp v P m))) with
          | some r =>
            refine wsk_nx (P := True) fun G4 σ4 H4 hs4 e4 => (nxt4 G4 σ4 H4 _ _ kvs3 F3 hs4 e4 ⟨L3, Lt3, _, _, sr3.up e4, ll3, sub3, fun j m2 hj lj h2 => ?_, rfl, rfl⟩).1
            rcases Nat.lt_or_ge j i3 with z | z
            · exact cl3 j m2 hj z h2
            · obtain rfl : j = i3 := by omega
              obtain rfl : m = m2 := Option.some.inj (hm.symm.trans hj)
              exact (sr3.keys _).mpr (by rw [hv]; rfl)
          | none =>
            refine wsk_dputD (id := 6) (ip := 11) (ks := kn (stp v P m)) F3 rfl rfl (by rw [sr3.len]; exact Nat.lt_of_le_of_lt l43 (by decide)) ?_
            refine we_tup (wa_cons (we_var rfl (wa_cons (we_op (we_var rfl (we_int ?_))))))
            refine os_ix (e := .int m) rfl (wa_nil ⟨by show 2 ≤ sizeLine; decide, ?_⟩)
            refine fun x4 G4 e4 r4 F4 => ?_
            refine wsk_last ?_
            refine ws_app rfl (we_var rfl ⟨by rw [List.length_map]; exact Nat.lt_of_le_of_lt (show Lt3.length ≤ 400000 by omega) (by decide), ?_⟩)
            refine fun G5 σ5 H5 hs5 e5 => (nxt4 G5 σ5 H5 _ _ _ F4 hs5 (e4.trans e5) ⟨L3 ++ [stp v P m], Lt3 ++ [stp v P m], some (.d (.list [.int m])), some (.d (pD (stp v P m))), ((sr3.up e4).put ok' lP sm hlt hv r4).up e5, ?_, fun Q z => List.mem_append_left _ (sub3 Q z), fun j m2 hj lj h2 => ?_, rfl, ?_⟩).1
            · rw [List.length_append, List.length_append]
              show L.length + (Lt3.length + 1) ≤ L3.length + 1
              omega
            · rcases Nat.lt_or_ge j i3 with z | z
              · exact List.mem_append_left _ (cl3 j m2 hj z h2)
              · obtain rfl : j = i3 := by omega
                obtain rfl : m = m2 := Option.some.inj (hm.symm.trans hj)
                exact List.mem_append_right _ List.mem_cons_self
            · rw [List.map_append]
              rfl
        · have hge : ¬ (stp v P m).2 < lcmV v := fun z => hlt (decide_eq_true z)
          refine wsk_nx (P := True) fun G4 σ4 H4 hs4 e4 => (nxt4 G4 σ4 H4 _ _ kvs3 F3 hs4 e4 ⟨L3, Lt3, _, _, sr3.up e4, ll3, sub3, fun j m2 hj lj h2 => ?_, rfl, rfl⟩).1
          rcases Nat.lt_or_ge j i3 with z | z
          · exact cl3 j m2 hj z h2
          · obtain rfl : j = i3 := by omega
            obtain rfl : m = m2 := Option.some.inj (hm.symm.trans hj)
            exact absurd h2 hge
      · rintro G3 kvs3 ds3 pl3' e3 F3 ⟨L3, Lt3, z10, z11, sr3, ll3, sub3, cl3, rfl, rfl⟩
        refine wsk_nx (P := True) fun G4 σ4 H4 hs4 e4 => (nxt3 G4 σ4 H4 _ _ kvs3 F3 hs4 (e3.trans e4) ⟨L3, Lt3, _, _, _, sr3.up e4, ll3, fun j Q hj lj => ?_, rfl, rfl⟩).1
        rcases Nat.lt_or_ge j i with z | z
        · obtain ⟨c1, c2⟩ := cl2 j Q hj z
          exact ⟨c1, fun m sm lt => sub3 _ (c2 m sm lt)⟩
        · obtain rfl : j = i := by omega
          obtain rfl : P = Q := Option.some.inj (hP.symm.trans hj)
          refine ⟨pn, fun m sm lt => ?_⟩
          obtain ⟨k, hk, ek⟩ := List.getElem_of_mem ((hSGm m).mpr sm)
          exact cl3 k m (by rw [List.getElem?_eq_getElem hk, ek]) (by rw [List.length_map]; exact hk) lt
    · rintro G2 kvs2 ds2 pl2 e2 F2 ⟨L2, Lt, y9, y10, y11, sr2, ll2, cl2, rfl, rfl⟩
      rw [List.length_map] at cl2
      have l42 := sr2.few ok' g0
      refine wsk_freeze (i := 8) rfl ?_
      have at' : ∀ P, Lev v A B s g n P → P.2 ≠ 0 ∧ ∀ m, Single A B m → (stp v P m).2 < lcmV v → stp v P m ∈ L2 := fun P hP => by
        obtain ⟨k, hk, ek⟩ := List.getElem_of_mem ((hW P).mpr hP)
        exact cl2 k P (by rw [List.getElem?_eq_getElem hk, ek]) hk
      obtain ⟨sr3, hW3⟩ := sr2.next ok' fun P hP => (at' P hP).2
      refine wsk_last ?_
      refine ws_set (we_var rfl ?_)
      refine fun G4 σ4 H4 hs4 e4 => (nxt G4 σ4 H4 _ _ kvs2 (2 * (400000 - L2.length) + (if Lt = [] then 0 else 1)) ?_ F2 hs4 (e2.trans e4) ⟨n + 1, L2, Lt, _, _, _, _, rfl, sr3.up e4, hW3, ?_, fun k P hk hP => ?_, rfl, rfl⟩).1
      · rw [if_neg wn]
        by_cases z : Lt = []
        · rw [if_pos z]
          have : Lt.length = 0 := by rw [z]; rfl
          omega
        · rw [if_neg z]
          have : 0 < Lt.length := List.length_pos_iff.mpr z
          omega
      · by_cases z : Lt = []
        · exact .inl z
        · have : 0 < Lt.length := List.length_pos_iff.mpr z
          exact .inr (by omega)
      · rcases Nat.lt_or_ge k n with z | z
        · exact nz k P z hP
        · obtain rfl : k = n := by omega
          exact (at' P hP).1

theorem ok_check_looks (T : Tx K mg) (D_is_whole_pair : D_is_whole_pair_ P w K mg base) {f : Addr} {fd : FuncData} (F : Here K mg "check_looks" s_check_looks ["looks"] f fd) : D_check_looks_ P w K mg base := by
  refine F.df (fgP F.1 sc_check_looks (fun ds k h => ?_) fun cdv B fr s H E hg hr => ⟨_, ((pss_cons (ps_if (PW.pt (pw_or (pt_not (pt_val (pe_callB (r := rIsi K) call_isi (by rfl) T.n_isinstance (by decide +kernel) (pa_cons (pv 0) (pa_cons (pe_bltn (v := .ty "list") (u := .type "list") (by rfl) T.n_list (by decide +kernel) rfl) pa_nil))))) (pw_or1 (pt_cmpR op_gt (pe_callB (r := rLenQ K) call_len_seq (by rfl) T.n_len (by decide +kernel) (pa_cons (pv 0) pa_nil)) (pe_glob (v := .int 12) (by rfl) T.c_MOST_LOOKS.choose_spec ⟨_, rfl⟩) (nomark _))))) (pss_one ps_never) pss_nil)
      (pss_one (ps_for PassesOwn.never rfl (pi_enum (by rfl) T.n_enumerate (pa_cons (pv 0) pa_nil)) (pg_tup (n := 2) rfl (pgs_cons (pg_name (i := 1) sc_check_looks.nd rfl (.inl rfl)) (pgs_cons (pg_name (i := 2) sc_check_looks.nd rfl (.inl rfl)) pgs_nil))) (pss_one (ps_if (PW.pt (pw_or (pt_not (pt_val (pe_callD D_is_whole_pair hg (hr.mono (by decide)) (by rfl) (pa_cons (pv 2) pa_nil)))) (pw_or1 (pt_cmpR (r := rEqU K) (op_eqU hr.units) (pe_ix (r := rIx K) ix_seq (pv 2) pe_int (fun _ _ => rfl)) pe_int (nomark _))))) (pss_one ps_never) pss_nil)))))), ?_⟩)
  · obtain ⟨a, rfl, _⟩ := h; rfl
  · intro c ds k hc h
    obtain ⟨ns, rfl, ⟨nl, nz⟩, h⟩ := h
    have nl' : ns.length ≤ 12 := nl
    have nz' : ∀ q ∈ ns, q.1 ≠ 0 := nz
    walk_at "go"
    have e : decide ((12 : Int) < ((ns.map Sv.d).length : Int)) = false := decide_eq_false (by rw [List.length_map]; omega)
    rw [e]
    walk_at "go"
    refine ws_forEL (fun i ds' pl' => ∃ a b, ds' = [some (.d (.list (ns.map Sv.d))), a, b]) (ns.map Sv.d) ?_ ?_ ?_
    · walk_at "go"
      exact ⟨_, _, rfl⟩
    · rintro i x ds' pl' hx ⟨a, b, rfl⟩
      rw [List.getElem?_map] at hx
      cases ht : ns[i]? with
      | none => rw [ht] at hx; cases hx
      | some q =>
        rw [ht] at hx
        cases hx
        have q0 := nz' q (List.mem_of_getElem? ht)
        walk_at "go"
        refine we_det (Sv.d q) ?_
        walk_at "go"
        rw [decide_eq_false q0]
        walk_at "go"
        exact ⟨_, _, rfl⟩
    · rintro ds' pl' ⟨a, b, rfl⟩
      exact h

theorem ok__law_pair (T : Tx K mg) (D__law_comb : D__law_comb_ P w K mg base) (D__law_pick : D__law_pick_ P w K mg base) {f : Addr} {fd : FuncData} (F : Here K mg "_law_pair" s__law_pair ["jar", "most"] f fd) : D__law_pair_ P w K mg base := by
  refine F.df (fgO F.1 sc__law_pair (fun pl ds k h => ?_) fun cdv B fr s H E hg hr => ⟨_, ((pss_cons (ps_par (i := 2) (j := 3) rfl sc__law_pair.nd rfl rfl (by decide) rfl rfl (pa_cons (pe_callD D__law_comb hg (hr.mono (by decide)) (by rfl) (pa_cons (pv 0) (pa_cons (pv 1) pa_nil))) (pa_cons (pe_callD D__law_comb hg (hr.mono (by decide)) (by rfl) (pa_cons (pv 0) (pa_cons (pv 1) pa_nil))) pa_nil)) (by rfl))
      (pss_cons (ps_if (pt_cmpR (r := rEqU K) (op_eqU hr.units) (pe_callD D__law_pick hg (hr.mono (by decide)) (by rfl) (pa_cons (pv 0) (pa_cons pe_int pa_nil))) pe_int (nomark _)) (pss_one (ps_set (i := 3) sc__law_pair.nd rfl (.inl rfl) (pe_tup (pa_cons (pe_ix (r := rIx K) ix_seq (pv 2) pe_int (fun _ _ => rfl)) (pa_cons (pe_callTy (r := rListQ K) call_list_of (by rfl) T.n_list (by decide +kernel) (pa_cons (pe_ix (r := rIx K) ix_seq (pv 2) pe_int (fun _ _ => rfl)) pa_nil)) pa_nil))))) pss_nil)
      (pss_one (ps_ret (pe_tup (pa_cons (pv 2) (pa_cons (pv 3) pa_nil)))))))), ?_⟩)
  · obtain ⟨a, n, rfl, _⟩ := h; rfl
  · intro c p pl ds k hp h
    obtain ⟨most, n, rfl, ⟨t0, t1⟩, hP, hn, h⟩ := h
    have t0' : 1 ≤ most := t0
    have t1' : most ≤ 24 := t1
    walk_at "nz"
    refine ws_seq (ws_par ?_)
    refine wa_cons (we_pool most rfl hp ?_)
    walk_at "go"
    refine ⟨⟨t0, t1⟩, n, hP, by omega, fun d1 pl1 q1 hP1 => ?_⟩
    obtain ⟨g, rfl, gok, gp⟩ := q1
    refine wa_cons (we_pool most rfl hp ?_)
    walk_at "go"
    refine ⟨⟨t0, t1⟩, n + 100, hP1, by omega, fun d2 pl2 q2 hP2 => ?_⟩
    obtain ⟨g2, rfl, gok2, gp2⟩ := q2
    walk_at "nz"
    refine wa_nil ⟨_, _, rfl, ?_⟩
    walk_at "nz"
    refine ws_seq (ws_if (wt_T (we_op ?_)))
    refine we_draw 4 (n + 200) rfl hp ?_
    walk_at "go"
    refine ⟨hP2, by omega, fun v2 pl3 v20 v21 hP3 => ?_⟩
    walk_at "go"
    walk_at "nz"
    refine ite_ws (fun ds' p' => ∃ g3 : Comb, ds' = [some (.v (.ref p)), some (.d (.int most)), some (.d g.d), some (.d g3.d)] ∧ p' = pl3 ∧ g3.Ok ∧ g3.p ≤ most) (fun hb => ?_) (fun hb => ?_) ?_
    · walk_at "go"
      refine cb_list ?_
      walk_at "nz"
      refine wa_nil ⟨by show 2 ≤ sizeLine; decide, ?_⟩
      walk_at "nz"
      exact ⟨g, rfl, rfl, gok, gp⟩
    · refine ws_next ?_
      exact ⟨g2, rfl, rfl, gok2, gp2⟩
    rintro ds' p' ⟨g3, rfl, rfl, gok3, gp3⟩
    walk_at "go"
    exact h _ _ ⟨(g, g3), rfl, ⟨gok, gok3⟩, gp, gp3⟩ (hP3.up (by show n + 200 + 1 ≤ n + 300; omega))

theorem ok_check_between (T : Tx K mg) (D_check_least : D_check_least_ P w K mg base) {f : Addr} {fd : FuncData} (F : Here K mg "check_between" s_check_between ["value", "least", "greatest", "name"] f fd) : D_check_between_ P w K mg base := by
  refine F.df (fgP F.1 sc_check_between (fun ds k h => ?_) fun cdv B fr s H E hg hr => ⟨_, ((pss_cons (ps_expr (pe_callD D_check_least hg (hr.mono (by decide)) (by rfl) (pa_cons (pv 0) (pa_cons (pv 1) (pa_cons (pv 3) pa_nil)))))
      (pss_one (ps_if (pt_cmpR op_gt (pv 0) (pv 2) (nomark _)) (pss_one ps_never) pss_nil)))), ?_⟩)
  · obtain ⟨a, rfl, _⟩ := h; rfl
  · intro c ds k hc h
    obtain ⟨⟨x, l, g, y⟩, rfl, ⟨p1, p2⟩, h⟩ := h
    have p1' : l ≤ x := p1
    have p2' : ¬ g < x := Int.not_lt.mpr p2
    walk_at "go"
    refine we_det (x, l, y) ?_
    walk_at "go"
    refine ⟨p1', ?_⟩
    walk_at "go"
    refine iteN (decide_eq_false p2') ?_
    walk_at "go"
    exact h

theorem ok_check_device (T : Tx K mg) (D_is_comb : D_is_comb_ P w K mg base) (D_is_pair : D_is_pair_ P w K mg base) {f : Addr} {fd : FuncData} (F : Here K mg "check_device" s_check_device ["device"] f fd) : D_check_device_ P w K mg base := by
  refine F.df (fgP F.1 sc_check_device (fun ds k h => ?_) fun cdv B fr s H E hg hr => ⟨_, ((pss_cons (ps_if (pt_not (pt_val (pe_callD D_is_pair hg (hr.mono (by decide)) (by rfl) (pa_cons (pv 0) pa_nil)))) (pss_one ps_never) pss_nil)
      (pss_one (ps_for PassesOwn.never rfl (pi_enumT (by rfl) T.n_enumerate (pa_cons (pv 0) pa_nil)) (pg_tup (n := 2) rfl (pgs_cons (pg_name (i := 1) sc_check_device.nd rfl (.inl rfl)) (pgs_cons (pg_name (i := 2) sc_check_device.nd rfl (.inl rfl)) pgs_nil))) (pss_one (ps_if (pt_not (pt_val (pe_callD D_is_comb hg (hr.mono (by decide)) (by rfl) (pa_cons (pv 2) pa_nil)))) (pss_one ps_never) pss_nil)))))), ?_⟩)
  · obtain ⟨a, rfl, _⟩ := h; rfl
  · intro c ds k hc h
    obtain ⟨⟨g, r⟩, rfl, ok, h⟩ := h
    walk_at "go"
    refine we_det (Dv.d (g, r)) ?_
    walk_at "go"
    refine ws_forET (fun i ds' pl' => ∃ a b, ds' = [some (.d (Dv.d (g, r))), a, b]) [g.d, r.d] ?_ ?_ ?_
    · walk_at "go"
      exact ⟨_, _, rfl⟩
    · rintro i x ds' pl' hx ⟨a, b, rfl⟩
      have hx2 : ∃ cb : Comb, cb.Ok ∧ x = cb.d := by
        match i, hx with
        | 0, hx => exact ⟨g, ok.1, (Option.some.inj hx).symm⟩
        | 1, hx => exact ⟨r, ok.2, (Option.some.inj hx).symm⟩
        | i + 2, hx => simp at hx
      obtain ⟨cb, okc, rfl⟩ := hx2
      walk_at "go"
      refine we_det cb ?_
      walk_at "go"
      refine ⟨okc, ?_⟩
      walk_at "go"
      exact ⟨_, _, rfl⟩
    · rintro ds' pl' ⟨a, b, rfl⟩
      exact h

theorem ok_plain_comb (T : Tx K mg) (D_check_comb : D_check_comb_ P w K mg base) (D_copied_comb : D_copied_comb_ P w K mg base) (D_repeated_teeth : D_repeated_teeth_ P w K mg base) (D_teeth_under : D_teeth_under_ P w K mg base) {f : Addr} {fd : FuncData} (F : Here K mg "plain_comb" s_plain_comb ["comb"] f fd) : D_plain_comb_ P w K mg base := by
  refine F.df (fgW F.1 sc_plain_comb (fun ds k h => ?_) fun cdv B fr s H E hg hr => ⟨_, ((pss_cons (ps_expr (pe_callD D_check_comb hg (hr.mono (by decide)) (by rfl) (pa_cons (pv 0) pa_nil)))
      (pss_cons (ps_asg (pv 0) (pg_tup (n := 2) rfl (pgs_cons (pg_name (i := 1) sc_plain_comb.nd rfl (.inl rfl)) (pgs_cons (pg_name (i := 2) sc_plain_comb.nd rfl (.inl rfl)) pgs_nil))))
      (pss_cons (ps_for PassesOwn.never rfl (pi_range2 (by rfl) T.n_range (pa_cons pe_int (pa_cons (pv 1) pa_nil))) (pg_name (i := 3) sc_plain_comb.nd rfl (.inl rfl)) (pss_one (ps_if (PW.pt (pw_and (pt_cmpR (r := rEqU K) (op_eqU hr.units) (pe_op op_mod (pv 1) (pv 3)) pe_int (nomark _)) (pw_and1 (pt_cmpR (r := rEqU K) (op_eqU hr.units) (pe_callD D_repeated_teeth hg (hr.mono (by decide)) (by rfl) (pa_cons (pv 2) (pa_cons (pv 3) (pa_cons (pv 1) pa_nil)))) (pv 2) (nomark _))))) (pss_one (ps_ret (pe_tup (pa_cons (pv 3) (pa_cons (pe_callD D_teeth_under hg (hr.mono (by decide)) (by rfl) (pa_cons (pv 2) (pa_cons (pv 3) pa_nil))) pa_nil))))) pss_nil)))
      (pss_one (ps_ret (pe_callD D_copied_comb hg (hr.mono (by decide)) (by rfl) (pa_cons (pv 0) pa_nil)))))))), ?_⟩)
  · obtain ⟨a, rfl, _⟩ := h; rfl
  · intro c ds k hc h D' G0 hk
    obtain ⟨cb, rfl, ok, h⟩ := h
    have ok' : cb.Ok := ok
    have p1 := ok'.p1
    have p24 := ok'.p24
    have len := ok'.len
    walk_at "nz"
    refine wsk_seq ?_
    walk_at "go"
    refine we_det cb ?_
    walk_at "go"
    refine ⟨ok', ?_⟩
    walk_at "nz"
    refine wsk_seq (ws_unpN rfl (we_var rfl ⟨_, _, rfl, ?_⟩))
    walk_at "nz"
    refine wsk_forR2 (fun i ds' p' => ∃ x, ds' = [some (.d cb.d), some (.d (.int cb.p)), some (.d (.list (cb.ts.map PyData.int))), x] ∧ p' = [] ∧ ∀ q : Int, 1 ≤ q → q < 1 + (i : Int) → cb.p % q = 0 → ¬ Per cb q) 1 cb.p ?_ ?_ ?_
    · refine wa_cons (we_int (wa_cons (we_var rfl (wa_nil ⟨rfl, by omega, _, rfl, rfl, fun q a b => by omega⟩))))
    · rintro i ds' p' hi ⟨x, rfl, rfl, lo⟩ D2 D2r nxt
      obtain ⟨q, hq⟩ : ∃ q : Int, 1 + (i : Int) = q := ⟨_, rfl⟩
      have q1 : 1 ≤ q := by omega
      have qp : q < cb.p := by omega
      have step : (cb.p % q = 0 → ¬ Per cb q) → ∀ z : Int, 1 ≤ z → z < 1 + ((i + 1 : Nat) : Int) → cb.p % z = 0 → ¬ Per cb z := fun s z z1 z2 => by
        by_cases e : z = q
        · rw [e]; exact s
        · exact lo z z1 (by omega)
      have go : (cb.p % q = 0 → ¬ Per cb q) → ∀ {G : Hp} {σ : L2.St} {H : Hp} {x : Option W}, HS c G σ H [some (.d cb.d), some (.d (.int cb.p)), some (.d (.list (cb.ts.map PyData.int))), x] [] → Ex G0 G → D2.nx σ H := fun s {G σ H x} hs e => nxt G σ H _ _ hs e ⟨x, rfl, rfl, step s⟩
      rw [hq]
      walk_at "nz"
      refine wsk_if (wt_and (wt_B (we_op (we_op (we_var rfl (we_var rfl ?_))))))
      refine os_mod (show 0 < q by omega) ?_
      refine we_int (os_eqI ?_)
      walk_at "nz"
      refine ite2 (fun hb2 => ?_) (fun hb2 => ?_)
      · have qd : cb.p % q = 0 := of_decide_eq_true hb2
        have hN : (((cb.p.toNat + q.toNat - 1) / q.toNat : Nat) : Int) * q = cb.p := by
          obtain ⟨m, hm⟩ := Int.dvd_of_emod_eq_zero qd
          have m0 : 0 < m := by
            rcases Int.lt_or_le 0 m with z | z
            · exact z
            · have := Int.mul_le_mul_of_nonneg_left z (show 0 ≤ q by omega)
              rw [Int.mul_zero] at this
              omega
          obtain ⟨mn, hmn⟩ : ∃ y : Nat, m = (y : Int) := ⟨m.toNat, by omega⟩
          obtain ⟨qn, hqn⟩ : ∃ y : Nat, q = (y : Int) := ⟨q.toNat, by omega⟩
          have pe : cb.p.toNat = qn * mn := by rw [hm, hmn, hqn, ← Int.natCast_mul]; exact Int.toNat_natCast _
          have qe : q.toNat = qn := by omega
          rw [pe, qe]
          have dv : (qn * mn + qn - 1) / qn = mn := by
            rw [show qn * mn + qn - 1 = (qn - 1) + qn * mn by omega, Nat.add_mul_div_left _ _ (by omega), Nat.div_eq_of_lt (by omega), Nat.zero_add]
          rw [dv, hm, hmn, hqn, Int.mul_comm]
        refine wt_B (we_op ?_)
        refine we_det (cb.ts, q, cb.p) (wa_cons (we_var rfl (wa_cons (we_var rfl (wa_cons (we_var rfl (wa_nil ⟨rfl, ⟨by show cb.ts.length ≤ 24; omega, q1, by show q ≤ 24; omega, by show 0 ≤ cb.p; omega, p24⟩, ?_⟩)))))))
        refine we_var rfl (os_eqUD (ints_shaped _) (ints_shaped _) ?_)
        have per := rep_per ok' q1 qp qd hN
        have eqvI : PyData.eqv (.list ((repT cb.ts q ((cb.p.toNat + q.toNat - 1) / q.toNat)).map PyData.int)) (.list (cb.ts.map PyData.int)) = decide (repT cb.ts q ((cb.p.toNat + q.toNat - 1) / q.toNat) = cb.ts) := eqv_ints _ _
        rw [eqvI]
        walk_at "nz"
        refine ite2 (fun hb3 => ?_) (fun hb3 => ?_)
        · have pr := per.mp (of_decide_eq_true hb3)
          obtain ⟨bo, same⟩ := part_ok ok' q1 qp qd pr
          intro G σ H hs e
          obtain ⟨v3, a1, a2⟩ := hs.slots 3 _ rfl
          obtain ⟨v2, b1, b2⟩ := hs.slots 2 _ rfl
          have a2' : R G v3 (.int q) := a2
          cases a2'
          refine ⟨_, a1, _, b1, _, a1, G, [.list (cb.ts.map PyData.int), .int q], hs.sub, .cons b2 (.cons (.int _) .nil), (cb.ts, q), rfl, by show cb.ts.length ≤ 24; omega, fun la H1 x1 x2 x3 => ⟨by show 2 ≤ sizeLine; decide, fun a ha => ?_⟩⟩
          rw [D2r]
          have ala : H1 la = some (.lst ((under cb.ts q).map V.int)) := x2 _ _ one_at
          have n : a ≠ la := fun z => by rw [z, ala] at ha; cases ha
          have keepH : ∀ x o, c.H0 x = some o → H x = some o := fun x o z => hs.keep x o (by rw [hc]; simp) z
          refine hk (combP ⟨q, under cb.ts q⟩ a la) (.ref a) _ (h ⟨q, under cb.ts q⟩ a la n ⟨bo, same, by show q ≤ cb.p; omega, qd, fun z z1 z2 => lo z z1 (by have : z < q := z2; omega)⟩) (fun x o z => Ex.new ha _ _ (x1 _ _ (keepH _ _ z))) (fun x o z => ?_) fun x o z => ?_
          · unfold combP at z
            by_cases y : x = a
            · subst y; rw [if_pos rfl] at z; cases z; exact upd_same
            · rw [if_neg y] at z
              by_cases y2 : x = la
              · subst y2; rw [if_pos rfl] at z; cases z; rw [upd_ne y]; exact ala
              · rw [if_neg y2] at z; cases z
          · rcases combP_some z with rfl | rfl
            · cases y : c.H0 x with
              | none => rfl
              | some o => rw [x1 _ _ (keepH _ _ y)] at ha; cases ha
            · exact (hs.none_of (x3 _ _ one_at)).2.2.2.2
        · intro G σ H hs e
          exact go (fun _ pr => hb3 (decide_eq_true (per.mpr pr))) hs e
      · intro G σ H hs e
        exact go (fun qd => absurd (decide_eq_true qd) hb2) hs e
    · rintro ds' p' ⟨x, rfl, rfl, lo⟩
      walk_at "nz"
      refine wsk_retW hc ?_ copyF_mono
      refine wa_cons (we_var rfl (wa_nil ⟨cb, rfl, fun a la n H' e1 e2 e3 => ?_⟩))
      exact hk _ _ _ (h cb a la n ⟨ok', fun _ => rfl, Int.le_refl _, Int.emod_self, fun q z1 z2 => lo q z1 (by omega)⟩) e1 e2 e3

theorem ok_check_state (T : Tx K mg) (D_fits_device : D_fits_device_ P w K mg base) {f : Addr} {fd : FuncData} (F : Here K mg "check_state" s_check_state ["device", "state"] f fd) : D_check_state_ P w K mg base := by
  refine F.df (fgP F.1 sc_check_state (fun ds k h => ?_) fun cdv B fr s H E hg hr => ⟨_, ((pss_one (ps_if (pt_not (pt_val (pe_callD D_fits_device hg (hr.mono (by decide)) (by rfl) (pa_cons (pv 0) (pa_cons (pv 1) pa_nil))))) (pss_one ps_never) pss_nil))), ?_⟩)
  · obtain ⟨a, rfl, _⟩ := h; rfl
  · intro c ds k hc h
    obtain ⟨⟨v, s⟩, rfl, ⟨ok, hh⟩, h⟩ := h
    walk_at "go"
    refine we_det (v, s) ?_
    walk_at "go"
    refine ⟨ok, ?_⟩
    have hh' : held v s = true := hh
    rw [hh']
    walk_at "go"
    exact h

theorem ok_heights_behind (T : Tx K mg) (D_device_slacks : D_device_slacks_ P w K mg base) (D_heights_at : D_heights_at_ P w K mg base) (D_moved_bar : D_moved_bar_ P w K mg base) {f : Addr} {fd : FuncData} (F : Here K mg "heights_behind" s_heights_behind ["device", "hand", "moves"] f fd) : D_heights_behind_ P w K mg base := by
  refine F.df (fgW F.1 sc_heights_behind (fun ds k h => ?_) fun cdv B fr s H E hg hr => ⟨_, ((pss_cons (ps_set (i := 3) sc_heights_behind.nd rfl (.inr rfl) (pe_callD D_device_slacks hg (hr.mono (by decide)) (by rfl) (pa_cons (pv 0) pa_nil)))
      (pss_one (ps_ret (pe_dc (own := [("height", 4)]) rfl sc_heights_behind.nd (pi_list (pe_callD D_heights_at hg (hr.mono (by decide)) (by rfl) (pa_cons (pv 0) (pa_cons (pv 1) pa_nil)))) (blkOk_by (N := ["device", "hand", "moves", "slacks", "height"]) (sc := defScope s_heights_behind) (by decide +kernel)) (fun _ _ _ _ _ => (pg_name (i := 4) sc_heights_behind.nd rfl (Or.inl rfl) (Or.inr rfl))) (fun _ _ _ _ _ => pts_nil) (fun _ _ _ _ _ => (pv 4)) (fun _ _ _ _ _ => (pe_ix (r := rIx K) ix_seq (pe_callD D_moved_bar hg (hr.mono (by decide)) (by rfl) (pa_cons (pv 3) (pa_cons (pv 4) (pa_cons (pe_op op_sub (pv 4) (pv 1)) (pa_cons (pv 2) pa_nil))))) pe_int (fun _ _ => rfl)))))))), ?_⟩)
  · obtain ⟨a, rfl, _⟩ := h; rfl
  · intro c ds k hc h D' G0 hk
    obtain ⟨⟨v, arm, ms⟩, rfl, ok, h⟩ := h
    have ok' : v.Ok := ok
    obtain ⟨cm, _⟩ := com_lcmV ok'
    have L0 := cm.pos
    have L5 := cm.le
    walk_at "nz"
    refine wsk_seq (ws_set (we_det v (wa_cons (we_var rfl (wa_nil ⟨rfl, ok', ?_⟩)))))
    walk_at "nz"
    refine wsk_retDc (heldL v arm) (fun x => (mvs v (x, arm) ms).1) (heldN_nd _ _ _) (Nat.lt_of_le_of_lt (Nat.le_trans (heldN_len v arm _) (show _ ≤ 1000 by omega)) (by decide)) (no_of rfl) (by show 4 < 5; decide) hc ?_ ?_ ?_
    · exact we_det (v, arm) (wa_cons (we_var rfl (wa_cons (we_var rfl (wa_nil ⟨rfl, ok', rfl, rfl⟩)))))
    · intro x hx P F
      walk_at "nz"
      refine we_op ?_
      refine we_det (v, (x, arm), ms) (wa_cons (we_var rfl (wa_cons (we_var rfl (wa_cons (we_op (we_var rfl (we_var rfl (os_sub ?_)))))))))
      refine wa_cons (we_var rfl (wa_nil ⟨rfl, ok', ?_⟩))
      walk_at "nz"
      refine we_int (os_t0 ?_)
      exact ⟨rfl, rfl⟩
    · intro p H' e1 e2 e3
      exact hk _ _ _ (h p) e1 e2 fun a o q => by obtain ⟨rfl, rfl⟩ := one_some q; exact e3

theorem ok_pump_mean (T : Tx K mg) (D_slack_mean : D_slack_mean_ P w K mg base) {f : Addr} {fd : FuncData} (F : Here K mg "pump_mean" s_pump_mean ["slacks", "hand", "span"] f fd) : D_pump_mean_ P w K mg base := by
  refine F.df (fgP F.1 sc_pump_mean (fun ds k h => ?_) fun cdv B fr s H E hg hr => ⟨_, ((pss_one (ps_ret (pe_callD D_slack_mean hg (hr.mono (by decide)) (by rfl) (pa_cons (pv 0) (pa_cons (pv 1) (pa_cons (pe_lst (pa_cons (pv 2) (pa_cons (pe_un un_neg (pv 2)) pa_nil))) pa_nil))))))), ?_⟩)
  · obtain ⟨a, rfl, _⟩ := h; rfl
  · intro c ds k hc h
    obtain ⟨⟨v, hand, span⟩, rfl, ok, h⟩ := h
    have ok' : v.Ok := ok
    walk_at "nz"
    refine ws_ret ?_
    refine we_rel (v, hand, [span, -span]) ?_
    refine wa_cons (we_var rfl (wa_cons (we_var rfl (wa_cons (we_lst ?_)))))
    walk_at "go"
    refine ⟨ok', fun d q => ?_⟩
    exact h _ q

theorem ok_check_moving (T : Tx K mg) (D_check_device : D_check_device_ P w K mg base) (D_check_moves : D_check_moves_ P w K mg base) (D_check_state : D_check_state_ P w K mg base) {f : Addr} {fd : FuncData} (F : Here K mg "check_moving" s_check_moving ["device", "state", "moves"] f fd) : D_check_moving_ P w K mg base := by
  refine F.df (fgP F.1 sc_check_moving (fun ds k h => ?_) fun cdv B fr s H E hg hr => ⟨_, ((pss_cons (ps_expr (pe_callD D_check_device hg (hr.mono (by decide)) (by rfl) (pa_cons (pv 0) pa_nil)))
      (pss_cons (ps_expr (pe_callD D_check_state hg (hr.mono (by decide)) (by rfl) (pa_cons (pv 0) (pa_cons (pv 1) pa_nil))))
      (pss_one (ps_expr (pe_callD D_check_moves hg (hr.mono (by decide)) (by rfl) (pa_cons (pv 2) pa_nil))))))), ?_⟩)
  · obtain ⟨a, rfl, _⟩ := h; rfl
  · intro c ds k hc h
    obtain ⟨⟨v, s, ms⟩, rfl, ⟨ok, hh, ok1, ok2⟩, h⟩ := h
    walk_at "go"
    refine we_det v ?_
    walk_at "go"
    refine ⟨ok, ?_⟩
    walk_at "go"
    refine we_det (v, s) ?_
    walk_at "go"
    refine ⟨⟨ok, hh⟩, ?_⟩
    walk_at "go"
    refine we_det ms ?_
    walk_at "go"
    exact ⟨⟨ok1, ok2⟩, h⟩

theorem ok_check_begun (T : Tx K mg) (D_check_device : D_check_device_ P w K mg base) (D_check_state : D_check_state_ P w K mg base) {f : Addr} {fd : FuncData} (F : Here K mg "check_begun" s_check_begun ["device", "state"] f fd) : D_check_begun_ P w K mg base := by
  refine F.df (fgP F.1 sc_check_begun (fun ds k h => ?_) fun cdv B fr s H E hg hr => ⟨_, ((pss_cons (ps_expr (pe_callD D_check_device hg (hr.mono (by decide)) (by rfl) (pa_cons (pv 0) pa_nil)))
      (pss_one (ps_expr (pe_callD D_check_state hg (hr.mono (by decide)) (by rfl) (pa_cons (pv 0) (pa_cons (pv 1) pa_nil))))))), ?_⟩)
  · obtain ⟨a, rfl, _⟩ := h; rfl
  · intro c ds k hc h
    obtain ⟨⟨v, s⟩, rfl, ⟨ok, hh⟩, h⟩ := h
    walk_at "go"
    refine we_det v ?_
    walk_at "go"
    refine ⟨ok, ?_⟩
    walk_at "go"
    refine we_det (v, s) ?_
    walk_at "go"
    refine ⟨⟨ok, hh⟩, ?_⟩
    walk_at "go"
    exact h

theorem ok_shifted_comb (T : Tx K mg) (D_plain_comb : D_plain_comb_ P w K mg base) {f : Addr} {fd : FuncData} (F : Here K mg "shifted_comb" s_shifted_comb ["comb", "distance"] f fd) : D_shifted_comb_ P w K mg base := by
  refine F.df (fgW F.1 sc_shifted_comb (fun ds k h => ?_) fun cdv B fr s H E hg hr => ⟨_, ((pss_cons (ps_asg (pv 0) (pg_tup (n := 2) rfl (pgs_cons (pg_name (i := 2) sc_shifted_comb.nd rfl (.inr rfl)) (pgs_cons (pg_name (i := 3) sc_shifted_comb.nd rfl (.inl rfl)) pgs_nil))))
      (pss_one (ps_ret (pe_callD D_plain_comb hg (hr.mono (by decide)) (by rfl) (pa_cons (pe_tup (pa_cons (pv 2) (pa_cons (pe_callB (r := rSortedI K) cr_sortedI (by rfl) T.n_sorted (by decide +kernel) (pa_cons (pe_lc (own := [("tooth", 4)]) rfl sc_shifted_comb.nd (pi_list (pv 3)) (blkOk_by (N := ["comb", "distance", "pitch", "teeth", "tooth"]) (sc := defScope s_shifted_comb) (by decide +kernel)) (fun _ _ _ _ _ => (pg_name (i := 4) sc_shifted_comb.nd rfl (Or.inl rfl) (Or.inr rfl))) (fun _ _ _ _ _ => pts_nil) (fun _ _ _ _ _ => (pe_op op_mod (pe_op op_sub (pv 4) (pv 1)) (pv 2)))) pa_nil)) pa_nil))) pa_nil)))))), ?_⟩)
  · obtain ⟨a, rfl, _⟩ := h; rfl
  · intro c ds k hc h D' G0 hk
    obtain ⟨⟨cb, d⟩, rfl, ok, h⟩ := h
    have ok' : cb.Ok := ok
    have p1 : 0 < cb.p := by have := Comb.Ok.p1 ok'; omega
    have p24 := ok'.p24
    have l1 := sorted_len ok'.up ok'.low ok'.high
    walk_at "nz"
    refine wsk_seq (ws_unpN rfl (we_var rfl ⟨_, _, rfl, ?_⟩))
    walk_at "nz"
    refine wsk_retW hc ?_ plainF_mono
    refine wa_cons (we_tup (wa_cons (we_var rfl (wa_cons (we_cb (wa_cons ?_))))))
    refine we_lcM cb.ts PyData.int (fun t => PyData.int ((t - d) % cb.p)) (Nat.lt_of_le_of_lt (show _ ≤ 100 by omega) (by decide)) (no_of rfl _) ?_ ?_
    · refine we_var rfl ⟨rfl, ?_⟩
      rw [show (cb.ts.map fun t => PyData.int ((t - d) % cb.p)) = (cb.ts.map fun t => (t - d) % cb.p).map PyData.int by rw [List.map_map]; rfl]
      refine wa_nil (cb_sortedI fun S pm up => ?_)
      obtain ⟨okS, catS⟩ := shift_ok ok' d pm up
      refine wa_nil ⟨by show 2 ≤ sizeLine; decide, ?_⟩
      refine wa_nil ⟨Comb.mk cb.p S, rfl, okS, fun b a la n q H' e1 e2 e3 => ?_⟩
      obtain ⟨ob, same, h1, h2, h3⟩ := q
      exact hk _ _ _ (h b a la n ⟨plain_of ob same h1 h2 h3, fun n => by rw [same, catS]⟩) e1 e2 e3
    · intro p' t ht pin
      walk_at "go"
      refine os_mod p1 ?_
      exact ⟨rfl, rfl⟩

theorem ok_check_reach (T : Tx K mg) (D_check_between : D_check_between_ P w K mg base) (D_check_device : D_check_device_ P w K mg base) (D_check_state : D_check_state_ P w K mg base) {f : Addr} {fd : FuncData} (F : Here K mg "check_reach" s_check_reach ["device", "state", "reach"] f fd) : D_check_reach_ P w K mg base := by
  refine F.df (fgP F.1 sc_check_reach (fun ds k h => ?_) fun cdv B fr s H E hg hr => ⟨_, ((pss_cons (ps_expr (pe_callD D_check_device hg (hr.mono (by decide)) (by rfl) (pa_cons (pv 0) pa_nil)))
      (pss_cons (ps_expr (pe_callD D_check_state hg (hr.mono (by decide)) (by rfl) (pa_cons (pv 0) (pa_cons (pv 1) pa_nil))))
      (pss_one (ps_expr (pe_callD D_check_between hg (hr.mono (by decide)) (by rfl) (pa_cons (pv 2) (pa_cons pe_int (pa_cons (pe_glob (v := .int 24) (by rfl) T.c_MOST_REACH.choose_spec ⟨_, rfl⟩) (pa_cons pe_str pa_nil)))))))))), ?_⟩)
  · obtain ⟨a, rfl, _⟩ := h; rfl
  · intro c ds k hc h
    obtain ⟨⟨v, s, r⟩, rfl, ⟨ok, hh, r1, r24⟩, h⟩ := h
    walk_at "go"
    refine we_det v ?_
    walk_at "go"
    refine ⟨ok, ?_⟩
    walk_at "go"
    refine we_det (v, s) ?_
    walk_at "go"
    refine ⟨⟨ok, hh⟩, ?_⟩
    walk_at "go"
    refine we_det (r, 1, 24, "reach") ?_
    walk_at "go"
    refine ⟨⟨r1, r24⟩, ?_⟩
    walk_at "go"
    exact h

theorem ok_check_hand (T : Tx K mg) (D_check_device : D_check_device_ P w K mg base) (D_check_whole : D_check_whole_ P w K mg base) {f : Addr} {fd : FuncData} (F : Here K mg "check_hand" s_check_hand ["device", "hand"] f fd) : D_check_hand_ P w K mg base := by
  refine F.df (fgP F.1 sc_check_hand (fun ds k h => ?_) fun cdv B fr s H E hg hr => ⟨_, ((pss_cons (ps_expr (pe_callD D_check_device hg (hr.mono (by decide)) (by rfl) (pa_cons (pv 0) pa_nil)))
      (pss_one (ps_expr (pe_callD D_check_whole hg (hr.mono (by decide)) (by rfl) (pa_cons (pv 1) (pa_cons pe_str pa_nil))))))), ?_⟩)
  · obtain ⟨a, rfl, _⟩ := h; rfl
  · intro c ds k hc h
    obtain ⟨⟨v, hand⟩, rfl, ok, h⟩ := h
    have ok' : v.Ok := ok
    walk_at "go"
    refine we_det v ?_
    walk_at "go"
    refine ⟨ok', ?_⟩
    walk_at "go"
    refine we_det (hand, "hand") ?_
    walk_at "go"
    exact h

theorem ok_check_small (T : Tx K mg) (D_check_device : D_check_device_ P w K mg base) {f : Addr} {fd : FuncData} (F : Here K mg "check_small" s_check_small ["device"] f fd) : D_check_small_ P w K mg base := by
  refine F.df (fgP F.1 sc_check_small (fun ds k h => ?_) fun cdv B fr s H E hg hr => ⟨_, ((pss_cons (ps_expr (pe_callD D_check_device hg (hr.mono (by decide)) (by rfl) (pa_cons (pv 0) pa_nil)))
      (pss_one (ps_for PassesOwn.never rfl (pi_enumT (by rfl) T.n_enumerate (pa_cons (pv 0) pa_nil)) (pg_tup (n := 2) rfl (pgs_cons (pg_name (i := 1) sc_check_small.nd rfl (.inl rfl)) (pgs_cons (pg_name (i := 2) sc_check_small.nd rfl (.inl rfl)) pgs_nil))) (pss_one (ps_if (pt_cmpR op_gt (pe_ix (r := rIx K) ix_seq (pv 2) pe_int (fun _ _ => rfl)) (pe_glob (v := .int 8) (by rfl) T.c_MOST_JOINING_PITCH.choose_spec ⟨_, rfl⟩) (nomark _)) (pss_one ps_never) pss_nil)))))), ?_⟩)
  · obtain ⟨a, rfl, _⟩ := h; rfl
  · intro c ds k hc h
    obtain ⟨v, rfl, ⟨ok, p8, q8⟩, h⟩ := h
    have ok' : v.Ok := ok
    have p8' : v.1.p ≤ 8 := p8
    have q8' : v.2.p ≤ 8 := q8
    walk_at "go"
    refine we_det v ?_
    walk_at "go"
    refine ⟨ok', ?_⟩
    walk_at "nz"
    refine ws_forET (fun i ds' p' => ∃ x1 x2 : Option W, ds' = [some (.d v.d), x1, x2] ∧ p' = []) [v.1.d, v.2.d] ?_ ?_ ?_
    · exact wa_cons (we_var rfl (wa_nil ⟨rfl, _, _, rfl, rfl⟩))
    · rintro i x ds' p' hx ⟨x1, x2, rfl, rfl⟩
      have key : ∃ cb : Comb, x = cb.d ∧ cb.p ≤ 8 := by
        match i, hx with
        | 0, hx => cases hx; exact ⟨v.1, rfl, p8'⟩
        | 1, hx => cases hx; exact ⟨v.2, rfl, q8'⟩
        | i + 2, hx => cases hx
      obtain ⟨cb, rfl, c8⟩ := key
      obtain ⟨i9, hi9⟩ : ∃ y : Int, (i : Int) = y := ⟨_, rfl⟩
      rw [hi9]
      walk_at "nz"
      refine ws_if (wt_B (we_op (we_op (we_var rfl (we_int (os_t0 (we_int (os_gt ?_))))))))
      walk_at "nz"
      refine iteN (decide_eq_false (by show ¬ 8 < cb.p; omega)) ?_
      refine ws_next ?_
      exact ⟨_, _, rfl, rfl⟩
    rintro ds' p' ⟨x1, x2, rfl, rfl⟩
    exact h

theorem ok_check_told (T : Tx K mg) (D_check_device : D_check_device_ P w K mg base) (D_check_looks : D_check_looks_ P w K mg base) {f : Addr} {fd : FuncData} (F : Here K mg "check_told" s_check_told ["device", "looks"] f fd) : D_check_told_ P w K mg base := by
  refine F.df (fgP F.1 sc_check_told (fun ds k h => ?_) fun cdv B fr s H E hg hr => ⟨_, ((pss_cons (ps_expr (pe_callD D_check_device hg (hr.mono (by decide)) (by rfl) (pa_cons (pv 0) pa_nil)))
      (pss_one (ps_expr (pe_callD D_check_looks hg (hr.mono (by decide)) (by rfl) (pa_cons (pv 1) pa_nil)))))), ?_⟩)
  · obtain ⟨a, rfl, _⟩ := h; rfl
  · intro c ds k hc h
    obtain ⟨⟨v, ns⟩, rfl, ⟨ok, nl, nz⟩, h⟩ := h
    walk_at "go"
    refine we_det v ?_
    walk_at "go"
    refine ⟨ok, ?_⟩
    walk_at "go"
    refine we_det ns ?_
    walk_at "go"
    refine ⟨⟨nl, nz⟩, ?_⟩
    walk_at "go"
    exact h

theorem ok_moved_state (T : Tx K mg) (D_after_move : D_after_move_ P w K mg base) (D_check_moving : D_check_moving_ P w K mg base) {f : Addr} {fd : FuncData} (F : Here K mg "moved_state" s_moved_state ["device", "state", "moves"] f fd) : D_moved_state_ P w K mg base := by
  refine F.df (fgP F.1 sc_moved_state (fun ds k h => ?_) fun cdv B fr s H E hg hr => ⟨_, ((pss_cons (ps_expr (pe_callD D_check_moving hg (hr.mono (by decide)) (by rfl) (pa_cons (pv 0) (pa_cons (pv 1) (pa_cons (pv 2) pa_nil)))))
      (pss_cons (ps_asg (pv 1) (pg_tup (n := 2) rfl (pgs_cons (pg_name (i := 3) sc_moved_state.nd rfl (.inl rfl)) (pgs_cons (pg_name (i := 4) sc_moved_state.nd rfl (.inl rfl)) pgs_nil))))
      (pss_cons (ps_for PassesOwn.never rfl (pi_list (pv 2)) (pg_name (i := 5) sc_moved_state.nd rfl (.inl rfl)) (pss_one (ps_asg (pe_callD D_after_move hg (hr.mono (by decide)) (by rfl) (pa_cons (pv 0) (pa_cons (pe_tup (pa_cons (pv 3) (pa_cons (pv 4) pa_nil))) (pa_cons (pv 5) pa_nil)))) (pg_tup (n := 2) rfl (pgs_cons (pg_name (i := 3) sc_moved_state.nd rfl (.inl rfl)) (pgs_cons (pg_name (i := 4) sc_moved_state.nd rfl (.inl rfl)) pgs_nil))))))
      (pss_one (ps_ret (pe_tup (pa_cons (pv 3) (pa_cons (pv 4) pa_nil))))))))), ?_⟩)
  · obtain ⟨a, rfl, _⟩ := h; rfl
  · intro c ds k hc h
    obtain ⟨⟨v, s, ms⟩, rfl, pre, h⟩ := h
    walk_at "go"
    refine we_det (v, s, ms) ?_
    walk_at "go"
    refine ⟨pre, ?_⟩
    walk_at "go"
    refine ws_forL (fun i ds' pl' => ∃ a, ds' = [some (.d v.d), some (.d s.d), some (.d (.list (ms.map PyData.int))), some (.d (.int (mvs v s (ms.take i)).1)), some (.d (.int (mvs v s (ms.take i)).2)), a]) (ms.map PyData.int) ?_ ?_ ?_
    · walk_at "go"
      exact ⟨_, rfl⟩
    · rintro i x ds' pl' hx ⟨a, rfl⟩
      obtain ⟨t, ht, rfl⟩ := ints_at hx
      walk_at "nz"
      walk_at "go"
      refine we_det (v, mvs v s (ms.take i), t) ?_
      walk_at "go"
      refine ⟨pre.1, ?_⟩
      walk_at "go"
      refine ⟨some (.d (.int t)), ?_⟩
      rw [mvs_take_succ v s ms i t ht]
      rfl
    · rintro ds' pl' ⟨a, rfl⟩
      rw [List.length_map, List.take_length]
      walk_at "go"
      exact h

theorem ok_far_state (T : Tx K mg) (D_check_least : D_check_least_ P w K mg base) (D_check_moving : D_check_moving_ P w K mg base) (D_device_slacks : D_device_slacks_ P w K mg base) (D_far_height : D_far_height_ P w K mg base) (D_repeated_heights : D_repeated_heights_ P w K mg base) {f : Addr} {fd : FuncData} (F : Here K mg "far_state" s_far_state ["device", "state", "moves", "times"] f fd) : D_far_state_ P w K mg base := by
  refine F.df (fgP F.1 sc_far_state (fun ds k h => ?_) fun cdv B fr s H E hg hr => ⟨_, ((pss_cons (ps_expr (pe_callD D_check_moving hg (hr.mono (by decide)) (by rfl) (pa_cons (pv 0) (pa_cons (pv 1) (pa_cons (pv 2) pa_nil)))))
      (pss_cons (ps_expr (pe_callD D_check_least hg (hr.mono (by decide)) (by rfl) (pa_cons (pv 3) (pa_cons pe_int (pa_cons pe_str pa_nil)))))
      (pss_cons (ps_asg (pv 1) (pg_tup (n := 2) rfl (pgs_cons (pg_name (i := 4) sc_far_state.nd rfl (.inl rfl)) (pgs_cons (pg_name (i := 5) sc_far_state.nd rfl (.inl rfl)) pgs_nil))))
      (pss_cons (ps_asg (pe_callD D_repeated_heights hg (hr.mono (by decide)) (by rfl) (pa_cons (pe_callD D_device_slacks hg (hr.mono (by decide)) (by rfl) (pa_cons (pv 0) pa_nil)) (pa_cons (pv 1) (pa_cons (pv 2) pa_nil)))) (pg_tup (n := 2) rfl (pgs_cons (pg_name (i := 6) sc_far_state.nd rfl (.inl rfl)) (pgs_cons (pg_name (i := 7) sc_far_state.nd rfl (.inl rfl)) pgs_nil))))
      (pss_one (ps_ret (pe_tup (pa_cons (pe_callD D_far_height hg (hr.mono (by decide)) (by rfl) (pa_cons (pv 6) (pa_cons (pv 7) (pa_cons (pv 3) pa_nil)))) (pa_cons (pe_op op_addU (pv 5) (pe_op op_mulU (pv 3) (pe_callB (r := rSum K) (cr_sum rfl) (by rfl) T.n_sum (by decide +kernel) (pa_cons (pv 2) pa_nil)))) pa_nil)))))))))), ?_⟩)
  · obtain ⟨a, rfl, _⟩ := h; rfl
  · intro c ds k hc h
    obtain ⟨⟨⟨v, s, ms⟩, t⟩, rfl, ⟨ok, hh, ml, mb, sb, tb⟩, h⟩ := h
    have ok' : v.Ok := ok
    have mb' : ∀ m ∈ ms, m ≠ 0 ∧ m.natAbs < BB := mb
    have ml' : ms.length ≤ 40 := ml
    have tb' : t < BB := tb
    have t0 : (0 : Int) ≤ (t : Int) := by omega
    walk_at "go"
    refine we_det (v, s, ms) ?_
    walk_at "go"
    refine ⟨⟨ok', hh, ml', fun m hm => (mb' m hm).1⟩, ?_⟩
    walk_at "go"
    refine we_det ((t : Int), 0, "times") ?_
    walk_at "go"
    refine ⟨t0, ?_⟩
    walk_at "go"
    refine we_rel (v, s, ms) ?_
    refine wa_cons (we_det v ?_)
    walk_at "go"
    refine ⟨ok', ?_⟩
    walk_at "go"
    refine ⟨ok', fun d q => ?_⟩
    obtain ⟨n, j, cy, rfl⟩ := q
    have cy' : Cyc v ms s n j := cy
    walk_at "go"
    refine we_det ((v, s, ms), n, j, t) ?_
    walk_at "go"
    refine ⟨⟨ok', cy', tb', sb, ml', fun m hm => (mb' m hm).2⟩, ?_⟩
    walk_at "go"
    refine cb_sum ?_
    refine os_mulI (sum_mul ml' (fun m hm => (mb' m hm).2) tb') ?_
    walk_at "go"
    rw [← rp_hand v ms s t]
    exact h

theorem ok_first_time (T : Tx K mg) (D_check_moving : D_check_moving_ P w K mg base) (D_check_whole : D_check_whole_ P w K mg base) (D_cycle_rise : D_cycle_rise_ P w K mg base) (D_device_slacks : D_device_slacks_ P w K mg base) (D_needed_cycles : D_needed_cycles_ P w K mg base) (D_repeated_heights : D_repeated_heights_ P w K mg base) {f : Addr} {fd : FuncData} (F : Here K mg "first_time" s_first_time ["device", "state", "moves", "height"] f fd) : D_first_time_ P w K mg base := by
  refine F.df (fgP F.1 sc_first_time (fun ds k h => ?_) fun cdv B fr s H E hg hr => ⟨_, ((pss_cons (ps_expr (pe_callD D_check_moving hg (hr.mono (by decide)) (by rfl) (pa_cons (pv 0) (pa_cons (pv 1) (pa_cons (pv 2) pa_nil)))))
      (pss_cons (ps_expr (pe_callD D_check_whole hg (hr.mono (by decide)) (by rfl) (pa_cons (pv 3) (pa_cons pe_str pa_nil))))
      (pss_cons (ps_asg (pe_callD D_repeated_heights hg (hr.mono (by decide)) (by rfl) (pa_cons (pe_callD D_device_slacks hg (hr.mono (by decide)) (by rfl) (pa_cons (pv 0) pa_nil)) (pa_cons (pv 1) (pa_cons (pv 2) pa_nil)))) (pg_tup (n := 2) rfl (pgs_cons (pg_name (i := 4) sc_first_time.nd rfl (.inl rfl)) (pgs_cons (pg_name (i := 5) sc_first_time.nd rfl (.inr rfl)) pgs_nil))))
      (pss_cons (ps_for PassesOwn.never rfl (pi_enum (by rfl) T.n_enumerate (pa_cons (pv 4) pa_nil)) (pg_tup (n := 2) rfl (pgs_cons (pg_name (i := 6) sc_first_time.nd rfl (.inl rfl)) (pgs_cons (pg_name (i := 7) sc_first_time.nd rfl (.inl rfl)) pgs_nil))) (pss_one (ps_if (pt_cmpR op_ge (pv 7) (pv 3) (nomark _)) (pss_one (ps_ret (pv 6))) pss_nil)))
      (pss_cons (ps_asg (pe_callD D_cycle_rise hg (hr.mono (by decide)) (by rfl) (pa_cons (pv 4) (pa_cons (pv 5) pa_nil))) (pg_tup (n := 2) rfl (pgs_cons (pg_name (i := 8) sc_first_time.nd rfl (.inr rfl)) (pgs_cons (pg_name (i := 9) sc_first_time.nd rfl (.inr rfl)) pgs_nil))))
      (pss_cons (ps_if (pt_cmpR (r := rEqU K) (op_eqU hr.units) (pv 9) pe_int (nomark _)) (pss_one (ps_ret pe_non)) pss_nil)
      (pss_one (ps_ret (pe_callB (r := rMin K) (cr_min rfl) (by rfl) T.n_min (by decide +kernel) (pa_cons (pe_lc (g := (gTup K 2 (gCons (gName 10) (gCons (gName 7) gNil)))) (own := [("at", 10), ("reached", 7)]) rfl sc_first_time.nd (pi_enum (by rfl) T.n_enumerate (pa_cons (pe_slice (r := rSlL K) sl_list (pv 4) (po_some (pv 5)) (po_some (pe_un un_neg pe_int))) pa_nil)) (blkOk_by (N := ["device", "state", "moves", "height", "heights", "ahead", "times", "reached", "length", "rise", "at"]) (sc := defScope s_first_time) (by decide +kernel)) (fun _ _ _ _ _ => (pg_tup (n := 2) rfl (pgs_cons (pg_name (i := 10) sc_first_time.nd rfl (Or.inl rfl) (Or.inr rfl)) (pgs_cons (pg_name (i := 7) sc_first_time.nd rfl (Or.inl rfl) (Or.inr rfl)) pgs_nil)))) (fun _ _ _ _ _ => pts_nil) (fun _ _ _ _ _ => (pe_op op_addU (pe_op op_addU (pv 5) (pv 10)) (pe_op op_mulU (pv 8) (pe_callD D_needed_cycles hg (hr.mono (by decide)) (by rfl) (pa_cons (pv 7) (pa_cons (pv 3) (pa_cons (pv 9) pa_nil)))))))) pa_nil))))))))))), ?_⟩)
  · obtain ⟨a, rfl, _⟩ := h; rfl
  · intro c ds k hc h
    obtain ⟨⟨⟨v, s, ms⟩, g⟩, rfl, ⟨ok, hh, ml, mb, sb, gb⟩, h⟩ := h
    have ok' : v.Ok := ok
    have ml' : ms.length ≤ 40 := ml
    have mb' : ∀ m ∈ ms, m ≠ 0 ∧ m.natAbs ≤ 10 ^ 41 := mb
    have sb' : s.1.natAbs ≤ 10 ^ 41 := sb
    have gb' : g.natAbs ≤ 10 ^ 46 := gb
    walk_at "go"
    refine we_det (v, s, ms) ?_
    walk_at "go"
    refine ⟨⟨ok', hh, ml', fun m hm => (mb' m hm).1⟩, ?_⟩
    walk_at "go"
    refine we_det (g, "height") ?_
    walk_at "go"
    refine we_rel (v, s, ms) ?_
    refine wa_cons (we_det v ?_)
    walk_at "go"
    refine ⟨ok', ?_⟩
    walk_at "go"
    refine ⟨ok', fun d q => ?_⟩
    obtain ⟨n, j, cy, rfl⟩ := q
    have cy' : Cyc v ms s n j := cy
    have lt := cy'.lt
    have n576 := cy'.le ok'
    have hb : ∀ i, i ≤ n → (rp v ms s i).1.natAbs ≤ 10 ^ 46 := fun i hi => by
      have h1 := (rp_bound ok' (fun m hm => (mb' m hm).2) s i).1
      have h2 : ms.length * (10 ^ 41 + 48) ≤ 40 * (10 ^ 41 + 48) := Nat.mul_le_mul_right _ ml'
      have h3 : i * (ms.length * (10 ^ 41 + 48)) ≤ 576 * (40 * (10 ^ 41 + 48)) := Nat.mul_le_mul (by omega) h2
      omega
    walk_at "go"
    refine ws_forEL (fun i ds' pl' => (∀ k, k < i → (rp v ms s k).1 < g) ∧ ∃ x y, ds' = [some (.d v.d), some (.d s.d), some (.d (.list (ms.map PyData.int))), some (.d (.int g)), some (.d (.list ((hts v ms s (n + 1)).map PyData.int))), some (.d (.int (j : Int))), x, y, none, none, none] ∧ noOs [x] = true ∧ noOs [y] = true ∧ pl' = []) ((hts v ms s (n + 1)).map PyData.int) ?_ ?_ ?_
    · walk_at "go"
      exact ⟨fun k hk => absurd hk (Nat.not_lt_zero _), _, _, rfl, rfl, rfl, rfl⟩
    · rintro i x0 ds' pl' hx ⟨lo, x, y, rfl, hx1, hy1, rfl⟩
      have i1 : i < n + 1 := by
        have := (List.getElem?_eq_some_iff.mp hx).1
        rwa [List.length_map, hts_len] at this
      have ex : x0 = .int (rp v ms s i).1 := by
        unfold hts at hx
        rw [List.getElem?_map, List.getElem?_map, List.getElem?_range i1] at hx
        cases hx; rfl
      subst ex
      walk_at "go"
      refine ite2 (fun hb => ?_) (fun hb => ?_)
      · have hb' : g ≤ (rp v ms s i).1 := of_decide_eq_true hb
        walk_at "go"
        exact h _ ⟨some i, ⟨hb', lo⟩, rfl, fun k e => by cases e; exact Nat.le_trans (show i ≤ 1000 by omega) (by decide)⟩
      · have hb' : (rp v ms s i).1 < g := Int.not_le.mp fun z => hb (decide_eq_true z)
        refine ws_next ?_
        refine ⟨fun k hk => ?_, _, _, rfl, rfl, rfl, rfl⟩
        rcases Nat.lt_succ_iff_lt_or_eq.mp hk with z | z
        · exact lo k z
        · rw [z]; exact hb'
    rintro ds' pl' ⟨lo, x, y, rfl, hx1, hy1, rfl⟩
    have lo' : ∀ k, k < n + 1 → (rp v ms s k).1 < g := fun k hk => lo k (by rw [List.length_map, hts_len]; exact hk)
    refine ws_forget 6 (ws_forget 7 ?_)
    walk_at "nz"
    refine ws_seq ?_
    walk_at "go"
    refine we_det (v, s, ms, n, j) ?_
    walk_at "go"
    refine ⟨lt, ?_⟩
    walk_at "go"
    refine ite2 (fun hb => ?_) (fun hb0 => ?_)
    · have r0 : (rp v ms s n).1 - (rp v ms s j).1 = 0 := by simpa using hb
      walk_at "go"
      exact h _ ⟨none, Fst.never ok' cy' lo' r0, rfl, fun k e => by cases e⟩
    have r0 : 0 < (rp v ms s n).1 - (rp v ms s j).1 := by
      have := cy'.rise ok'
      have : (rp v ms s n).1 - (rp v ms s j).1 ≠ 0 := by simpa using hb0
      omega
    have r1 : (rp v ms s n).1 - (rp v ms s j).1 < 2 ^ 200 := by
      have h1 := hb n (Nat.le_refl _)
      have h2 := hb j (by omega)
      have h3 : (2 : Int) * 10 ^ 46 < 2 ^ 200 := by decide +kernel
      omega
    walk_at "nz"
    refine ws_next ?_
    refine ws_ret (we_cb (wa_cons ?_))
    refine we_lcE (fun i acc p => acc = ((List.range i).map fun (i : Nat) => PyData.int ((j : Int) + (i : Int) + ((n : Int) - (j : Int)) * need (rp v ms s (j + i)).1 g ((rp v ms s n).1 - (rp v ms s j).1))) ∧ p = []) ((List.range (n - j)).map fun i => PyData.int (rp v ms s (j + i)).1) (fun xs => ⟨no_of rfl _ xs, no_of rfl _ xs⟩) ?_ ?_ ?_
    · refine wa_cons (we_slice (we_var rfl ⟨_, rfl, wo_some ?_⟩))
      walk_at "go"
      refine wo_some ?_
      walk_at "go"
      rw [hts_cut v ms s lt]
      exact ⟨rfl, rfl, rfl⟩
    · rintro i x3 acc p' hx3 ⟨rfl, rfl⟩ pin
      have i2 : i < n - j := by
        have := (List.getElem?_eq_some_iff.mp hx3).1
        rwa [List.length_map, List.length_range] at this
      have ex : x3 = .int (rp v ms s (j + i)).1 := by
        rw [List.getElem?_map, List.getElem?_range i2] at hx3
        cases hx3; rfl
      subst ex
      have np := need_pos r0 (lo' (j + i) (by omega))
      have nl : need (rp v ms s (j + i)).1 g ((rp v ms s n).1 - (rp v ms s j).1) ≤ g - (rp v ms s (j + i)).1 := (need_le r0 _).mpr (by
        have z := lo' (j + i) (by omega)
        have : (g - (rp v ms s (j + i)).1) * 1 ≤ (g - (rp v ms s (j + i)).1) * ((rp v ms s n).1 - (rp v ms s j).1) := Int.mul_le_mul_of_nonneg_left (by omega) (by omega)
        omega)
      walk_at "go"
      refine we_det ((rp v ms s (j + i)).1, g, (rp v ms s n).1 - (rp v ms s j).1) ?_
      walk_at "go"
      refine ⟨⟨r0, r1⟩, ?_⟩
      walk_at "go"
      refine os_mulI (mulw 20 200 (by omega) (by omega) (show -(2 : Int) ^ 200 < need (rp v ms s (j + i)).1 g ((rp v ms s n).1 - (rp v ms s j).1) from ?_) (show need (rp v ms s (j + i)).1 g ((rp v ms s n).1 - (rp v ms s j).1) < (2 : Int) ^ 200 from ?_) (by decide) (by decide) (by decide)) ?_
      · have h3 : (0 : Int) < 2 ^ 200 := by decide +kernel
        omega
      · have h1 := hb (j + i) (by omega)
        have h3 : (2 : Int) * 10 ^ 46 < 2 ^ 200 := by decide +kernel
        omega
      walk_at "go"
      refine ⟨by rw [List.length_map, List.length_range]; exact Nat.lt_of_le_of_lt (show _ ≤ 1000 by omega) (by decide), ?_, rfl⟩
      rw [List.range_succ, List.map_append]
      rfl
    rintro acc p' ⟨rfl, rfl⟩
    rw [List.length_map, List.length_range]
    have eI : ((List.range (n - j)).map fun (i : Nat) => PyData.int ((j : Int) + (i : Int) + ((n : Int) - (j : Int)) * need (rp v ms s (j + i)).1 g ((rp v ms s n).1 - (rp v ms s j).1))) = ((List.range (n - j)).map fun (i : Nat) => (j : Int) + (i : Int) + ((n : Int) - (j : Int)) * need (rp v ms s (j + i)).1 g ((rp v ms s n).1 - (rp v ms s j).1)).map PyData.int := by rw [List.map_map]; rfl
    rw [eI]
    refine wa_nil (cb_minI (fun z => ?_) fun m m1 m2 => ?_)
    · have := congrArg List.length z
      rw [List.length_map, List.length_range] at this
      exact absurd this (by show n - j ≠ 0; omega)
    · obtain ⟨k, rfl, fk⟩ := Fst.least ok' cy' lo' r0 m1 m2
      exact h _ ⟨some k, fk, rfl, fun k2 e => by
        cases e
        exact Nat.le_trans (fk.bound ok' cy' gb' (hb j (by omega))) (by decide)⟩

theorem ok_round_cycle (T : Tx K mg) (D_check_moving : D_check_moving_ P w K mg base) (D_cycle_rise : D_cycle_rise_ P w K mg base) (D_device_slacks : D_device_slacks_ P w K mg base) (D_repeated_heights : D_repeated_heights_ P w K mg base) {f : Addr} {fd : FuncData} (F : Here K mg "round_cycle" s_round_cycle ["device", "state", "moves"] f fd) : D_round_cycle_ P w K mg base := by
  refine F.df (fgP F.1 sc_round_cycle (fun ds k h => ?_) fun cdv B fr s H E hg hr => ⟨_, ((pss_cons (ps_expr (pe_callD D_check_moving hg (hr.mono (by decide)) (by rfl) (pa_cons (pv 0) (pa_cons (pv 1) (pa_cons (pv 2) pa_nil)))))
      (pss_cons (ps_asg (pe_callD D_repeated_heights hg (hr.mono (by decide)) (by rfl) (pa_cons (pe_callD D_device_slacks hg (hr.mono (by decide)) (by rfl) (pa_cons (pv 0) pa_nil)) (pa_cons (pv 1) (pa_cons (pv 2) pa_nil)))) (pg_tup (n := 2) rfl (pgs_cons (pg_name (i := 3) sc_round_cycle.nd rfl (.inl rfl)) (pgs_cons (pg_name (i := 4) sc_round_cycle.nd rfl (.inl rfl)) pgs_nil))))
      (pss_cons (ps_asg (pe_callD D_cycle_rise hg (hr.mono (by decide)) (by rfl) (pa_cons (pv 3) (pa_cons (pv 4) pa_nil))) (pg_tup (n := 2) rfl (pgs_cons (pg_name (i := 5) sc_round_cycle.nd rfl (.inl rfl)) (pgs_cons (pg_name (i := 6) sc_round_cycle.nd rfl (.inl rfl)) pgs_nil))))
      (pss_one (ps_ret (pe_tup (pa_cons (pv 4) (pa_cons (pv 5) (pa_cons (pv 6) pa_nil)))))))))), ?_⟩)
  · obtain ⟨a, rfl, _⟩ := h; rfl
  · intro c ds k hc h
    obtain ⟨⟨v, s, ms⟩, rfl, ⟨ok, hh, ml, mz⟩, h⟩ := h
    have ok' : v.Ok := ok
    walk_at "go"
    refine we_det (v, s, ms) ?_
    walk_at "go"
    refine ⟨⟨ok', hh, ml, mz⟩, ?_⟩
    walk_at "go"
    refine we_rel (v, s, ms) ?_
    refine wa_cons (we_det v ?_)
    walk_at "go"
    refine ⟨ok', ?_⟩
    walk_at "go"
    refine ⟨ok', fun d q => ?_⟩
    obtain ⟨n, j, cy, rfl⟩ := q
    have cy' : Cyc v ms s n j := cy
    walk_at "go"
    refine we_det (v, s, ms, n, j) ?_
    walk_at "go"
    refine ⟨cy'.lt, ?_⟩
    walk_at "go"
    exact h _ ⟨n, j, cy', rfl⟩

theorem ok_check_both (T : Tx K mg) (D_check_begun : D_check_begun_ P w K mg base) {f : Addr} {fd : FuncData} (F : Here K mg "check_both" s_check_both ["device", "state", "second", "start"] f fd) : D_check_both_ P w K mg base := by
  refine F.df (fgP F.1 sc_check_both (fun ds k h => ?_) fun cdv B fr s H E hg hr => ⟨_, ((pss_cons (ps_expr (pe_callD D_check_begun hg (hr.mono (by decide)) (by rfl) (pa_cons (pv 0) (pa_cons (pv 1) pa_nil))))
      (pss_one (ps_expr (pe_callD D_check_begun hg (hr.mono (by decide)) (by rfl) (pa_cons (pv 2) (pa_cons (pv 3) pa_nil))))))), ?_⟩)
  · obtain ⟨a, rfl, _⟩ := h; rfl
  · intro c ds k hc h
    obtain ⟨⟨⟨v, s⟩, w', t⟩, rfl, ⟨hv, hw⟩, h⟩ := h
    walk_at "go"
    refine we_det (v, s) ?_
    walk_at "go"
    refine ⟨hv, ?_⟩
    walk_at "go"
    refine we_det (w', t) ?_
    walk_at "go"
    exact ⟨hw, h⟩

theorem ok_shifted_device (T : Tx K mg) (D_shifted_comb : D_shifted_comb_ P w K mg base) {f : Addr} {fd : FuncData} (F : Here K mg "shifted_device" s_shifted_device ["device", "state"] f fd) : D_shifted_device_ P w K mg base := by
  refine F.df (fgW F.1 sc_shifted_device (fun ds k h => ?_) fun cdv B fr s H E hg hr => ⟨_, ((pss_cons (ps_asg (pv 0) (pg_tup (n := 2) rfl (pgs_cons (pg_name (i := 2) sc_shifted_device.nd rfl (.inl rfl)) (pgs_cons (pg_name (i := 3) sc_shifted_device.nd rfl (.inl rfl)) pgs_nil))))
      (pss_cons (ps_asg (pv 1) (pg_tup (n := 2) rfl (pgs_cons (pg_name (i := 4) sc_shifted_device.nd rfl (.inl rfl)) (pgs_cons (pg_name (i := 5) sc_shifted_device.nd rfl (.inl rfl)) pgs_nil))))
      (pss_one (ps_ret (pe_tup (pa_cons (pe_callD D_shifted_comb hg (hr.mono (by decide)) (by rfl) (pa_cons (pv 2) (pa_cons (pv 4) pa_nil))) (pa_cons (pe_callD D_shifted_comb hg (hr.mono (by decide)) (by rfl) (pa_cons (pv 3) (pa_cons (pe_op op_sub (pv 4) (pv 5)) pa_nil))) pa_nil)))))))), ?_⟩)
  · obtain ⟨a, rfl, _⟩ := h; rfl
  · intro c ds k hc h D' G0 hk
    obtain ⟨⟨v, s⟩, rfl, ok, h⟩ := h
    have ok' : v.Ok := ok
    walk_at "nz"
    refine wsk_seq (ws_unpN rfl (we_var rfl ⟨_, _, rfl, ?_⟩))
    walk_at "nz"
    refine wsk_seq (ws_unpN rfl (we_var rfl ⟨_, _, rfl, ?_⟩))
    walk_at "nz"
    intro G σ H hs e
    obtain ⟨v2, a1, a2⟩ := hs.slots 2 _ rfl
    obtain ⟨v3, b1, b2⟩ := hs.slots 3 _ rfl
    obtain ⟨v4, c1, c2⟩ := hs.slots 4 _ rfl
    obtain ⟨v5, d1, d2⟩ := hs.slots 5 _ rfl
    have c2' : R G v4 (.int s.1) := c2
    have d2' : R G v5 (.int s.2) := d2
    cases c2'
    cases d2'
    have keepH : ∀ x o, c.H0 x = some o → H x = some o := fun x o z => hs.keep x o (by rw [hc]; simp) z
    refine ⟨v2, a1, _, c1, G, [v.1.d, .int s.1], hs.sub, .cons a2 (.cons (.int _) .nil), (v.1, s.1), rfl, ok'.1, fun B1 a la n1 Q1 H1 x1 x2 x3 => ?_⟩
    refine ⟨v3, b1, _, c1, _, d1, _, _, rfl, rfl, G, [v.2.d, .int (s.1 - s.2)], hs.sub.trans x1, .cons b2 (.cons (.int _) .nil), (v.2, s.1 - s.2), rfl, ok'.2, fun B2 b lb n2 Q2 H2 y1 y2 y3 => ⟨by show 2 ≤ sizeLine; decide, fun t ht => ?_⟩⟩
    have Pa : combP B1 a la a = some (.tup [.int B1.p, .ref la]) := if_pos rfl
    have Pla : combP B1 a la la = some (.lst (B1.ts.map V.int)) := by unfold combP; rw [if_neg (Ne.symm n1), if_pos rfl]
    have Pb : combP B2 b lb b = some (.tup [.int B2.p, .ref lb]) := if_pos rfl
    have Plb : combP B2 b lb lb = some (.lst (B2.ts.map V.int)) := by unfold combP; rw [if_neg (Ne.symm n2), if_pos rfl]
    have h1b := y3 _ _ Pb
    have h1lb := y3 _ _ Plb
    have ne : ∀ {x y : Addr} {o : HO}, H1 x = some o → H1 y = none → x ≠ y := fun p q z => by rw [z, q] at p; cases p
    have ne2 : ∀ {x : Addr} {o : HO}, H2 x = some o → t ≠ x := fun p z => by rw [z, p] at ht; cases ht
    have m : Mir (B2, B1) t a b la lb := ⟨n1, n2, ne (x2 _ _ Pla) h1lb, ne (x2 _ _ Pa) h1b, ne (x2 _ _ Pa) h1lb, Ne.symm (ne (x2 _ _ Pla) h1b), ne2 (y1 _ _ (x2 _ _ Pa)), ne2 (y2 _ _ Pb), ne2 (y1 _ _ (x2 _ _ Pla)), ne2 (y2 _ _ Plb)⟩
    have back : ∀ x, H1 x = none → c.H0 x = none := fun x z => by
      cases y : c.H0 x with
      | none => rfl
      | some o => rw [x1 _ _ (keepH _ _ y)] at z; cases z
    have back0 : ∀ x, H x = none → c.H0 x = none := fun x z => by
      cases y : c.H0 x with
      | none => rfl
      | some o => rw [keepH _ _ y] at z; cases z
    refine hk (mirP (B2, B1) t a b la lb) (.ref t) _ (h (B1, B2) t a b la lb m ⟨Q1.1, Q2.1, Q1.2, Q2.2⟩) (fun x o z => Ex.new ht _ _ (y1 _ _ (x1 _ _ (keepH _ _ z)))) (fun x o z => ?_) fun x o z => ?_
    · unfold mirP at z
      by_cases y : x = t
      · subst y; rw [if_pos rfl] at z; cases z; exact upd_same
      · rw [if_neg y] at z
        rw [upd_ne y]
        rcases orP_or z with z | z
        · exact y1 _ _ (x2 _ _ z)
        · exact y2 _ _ z
    · rcases m.all z with rfl | rfl | rfl | rfl | rfl
      · cases y : c.H0 x with
        | none => rfl
        | some o => rw [y1 _ _ (x1 _ _ (keepH _ _ y))] at ht; cases ht
      · exact back0 _ (x3 _ _ Pa)
      · exact back0 _ (x3 _ _ Pla)
      · exact back _ h1b
      · exact back _ h1lb

theorem ok_alike_state (T : Tx K mg) (D_check_begun : D_check_begun_ P w K mg base) (D_plain_comb : D_plain_comb_ P w K mg base) {f : Addr} {fd : FuncData} (F : Here K mg "alike_state" s_alike_state ["device", "state"] f fd) : D_alike_state_ P w K mg base := by
  refine F.df (fgP F.1 sc_alike_state (fun ds k h => ?_) fun cdv B fr s H E hg hr => ⟨_, ((pss_cons (ps_expr (pe_callD D_check_begun hg (hr.mono (by decide)) (by rfl) (pa_cons (pv 0) (pa_cons (pv 1) pa_nil))))
      (pss_cons (ps_asg (pv 0) (pg_tup (n := 2) rfl (pgs_cons (pg_name (i := 2) sc_alike_state.nd rfl (.inl rfl)) (pgs_cons (pg_name (i := 3) sc_alike_state.nd rfl (.inl rfl)) pgs_nil))))
      (pss_cons (ps_asg (pv 1) (pg_tup (n := 2) rfl (pgs_cons (pg_name (i := 4) sc_alike_state.nd rfl (.inl rfl)) (pgs_cons (pg_name (i := 5) sc_alike_state.nd rfl (.inl rfl)) pgs_nil))))
      (pss_cons (ps_asg (pe_callD D_plain_comb hg (hr.mono (by decide)) (by rfl) (pa_cons (pv 2) pa_nil)) (pg_tup (n := 2) rfl (pgs_cons (pg_name (i := 6) sc_alike_state.nd rfl (.inl rfl)) (pgs_cons (pg_name (i := 7) sc_alike_state.nd rfl (.inl rfl)) pgs_nil))))
      (pss_cons (ps_asg (pe_callD D_plain_comb hg (hr.mono (by decide)) (by rfl) (pa_cons (pv 3) pa_nil)) (pg_tup (n := 2) rfl (pgs_cons (pg_name (i := 8) sc_alike_state.nd rfl (.inl rfl)) (pgs_cons (pg_name (i := 7) sc_alike_state.nd rfl (.inl rfl)) pgs_nil))))
      (pss_cons (ps_set (i := 9) sc_alike_state.nd rfl (.inl rfl) (pe_op op_mod (pv 4) (pv 6)))
      (pss_one (ps_ret (pe_tup (pa_cons (pv 9) (pa_cons (pe_op op_mod (pe_op op_addU (pe_op op_sub (pv 9) (pv 4)) (pv 5)) (pv 8)) pa_nil)))))))))))), ?_⟩)
  · obtain ⟨a, rfl, _⟩ := h; rfl
  · intro c ds k hc h
    obtain ⟨⟨v, s⟩, rfl, ⟨ok, hh⟩, h⟩ := h
    have ok' : v.Ok := ok
    have h' : ∀ d, (∃ P Q : Int, LeastP v.1 P ∧ LeastP v.2 Q ∧ d = Sv.d (s.1 % P, (s.1 % P - s.1 + s.2) % Q)) → k d := h
    walk_at "go"
    refine we_det (v, s) ?_
    walk_at "go"
    refine ⟨⟨ok', hh⟩, ?_⟩
    walk_at "nz"
    refine ws_seq (ws_unpN rfl (we_var rfl ⟨_, _, rfl, ?_⟩))
    walk_at "nz"
    refine ws_seq (ws_unpN rfl (we_var rfl ⟨_, _, rfl, ?_⟩))
    walk_at "nz"
    refine ws_seq (ws_unpN rfl ?_)
    refine we_callW ?_ plainF_mono
    refine wa_cons (we_var rfl (wa_nil ⟨v.1, rfl, ok'.1, fun b1 a la n q => ⟨b1.d, combP_r n, ?_⟩⟩))
    obtain ⟨o1, s1, l1, m1, x1⟩ := q
    refine ⟨_, _, rfl, ?_⟩
    walk_at "nz"
    refine ws_seq (ws_unpN rfl ?_)
    refine we_callW ?_ plainF_mono
    refine wa_cons (we_var rfl (wa_nil ⟨v.2, rfl, ok'.2, fun b2 a la n q => ⟨b2.d, combP_r n, ?_⟩⟩))
    obtain ⟨o2, s2, l2, m2, x2⟩ := q
    refine ⟨_, _, rfl, ?_⟩
    have p1 := o1.p1
    have p2 := o2.p1
    walk_at "nz"
    refine ws_seq (ws_set (we_op (we_var rfl (we_var rfl ?_))))
    refine os_mod (show 0 < b1.p by omega) ?_
    walk_at "nz"
    refine ws_ret (we_tup (wa_cons (we_var rfl (wa_cons (we_op ?_)))))
    refine we_op (we_op (we_var rfl (we_var rfl (os_sub ?_))))
    refine we_var rfl (os_addI ?_)
    refine we_var rfl (os_mod (show 0 < b2.p by omega) ?_)
    refine wa_nil ⟨by show 2 ≤ sizeLine; decide, ?_⟩
    exact h' _ ⟨b1.p, b2.p, leastP_of o1 s1 l1 m1 x1, leastP_of o2 s2 l2 m2 x2, rfl⟩

theorem ok_best_heights (T : Tx K mg) (D_check_between : D_check_between_ P w K mg base) (D_check_reach : D_check_reach_ P w K mg base) (D_check_within : D_check_within_ P w K mg base) (D_device_slacks : D_device_slacks_ P w K mg base) (D_heights_behind_more : D_heights_behind_more_ P w K mg base) {f : Addr} {fd : FuncData} (F : Here K mg "best_heights" s_best_heights ["device", "state", "reach", "count"] f fd) : D_best_heights_ P w K mg base := by
  refine F.df (fgP F.1 sc_best_heights (fun ds k h => ?_) fun cdv B fr s H E hg hr => ⟨_, ((pss_cons (ps_expr (pe_callD D_check_reach hg (hr.mono (by decide)) (by rfl) (pa_cons (pv 0) (pa_cons (pv 1) (pa_cons (pv 2) pa_nil)))))
      (pss_cons (ps_expr (pe_callD D_check_between hg (hr.mono (by decide)) (by rfl) (pa_cons (pv 3) (pa_cons pe_int (pa_cons (pe_glob (v := .int 200) (by rfl) T.c_MOST_COUNT.choose_spec ⟨_, rfl⟩) (pa_cons pe_str pa_nil))))))
      (pss_cons (ps_expr (pe_callD D_check_within hg (hr.mono (by decide)) (by rfl) (pa_cons (pv 1) (pa_cons (pv 2) pa_nil))))
      (pss_cons (ps_asg (pv 1) (pg_tup (n := 2) rfl (pgs_cons (pg_name (i := 4) sc_best_heights.nd rfl (.inl rfl)) (pgs_cons (pg_name (i := 5) sc_best_heights.nd rfl (.inl rfl)) pgs_nil))))
      (pss_cons (ps_set (i := 6) sc_best_heights.nd rfl (.inl rfl) (pe_callD D_device_slacks hg (hr.mono (by decide)) (by rfl) (pa_cons (pv 0) pa_nil)))
      (pss_cons (ps_set (i := 7) sc_best_heights.nd rfl (.inl rfl) (pe_op op_mulU (pe_lst (pa_cons pe_non pa_nil)) (pe_op op_addU (pv 2) pe_int)))
      (pss_cons (ps_asg (pv 4) (pg_sub (pv 7) (pv 5) set_list))
      (pss_cons (ps_for PassesOwn.never rfl (pi_range1 (by rfl) T.n_range (pa_cons (pv 3) pa_nil)) (pg_name (i := 8) sc_best_heights.nd rfl (.inl rfl)) (pss_one (ps_set (i := 7) sc_best_heights.nd rfl (.inl rfl) (pe_callD D_heights_behind_more hg (hr.mono (by decide)) (by rfl) (pa_cons (pv 6) (pa_cons (pv 7) pa_nil))))))
      (pss_one (ps_ret (pv 7)))))))))))), ?_⟩)
  · obtain ⟨a, rfl, _⟩ := h; rfl
  · intro c ds k hc h
    obtain ⟨⟨v, s, reach, count⟩, rfl, ⟨ok, hh, r1, r24, c200, h0, h1⟩, h⟩ := h
    have ok' : v.Ok := ok
    have r1' : 1 ≤ reach := r1
    have r24' : reach ≤ 24 := r24
    have c200' : count ≤ 200 := c200
    have h0' : 0 ≤ s.2 := h0
    have h1' : s.2 ≤ (reach : Int) := h1
    have h' : k (.list ((itT v (PD.startT reach s.2.toNat s.1) count).map optI)) := h
    obtain ⟨r9, hr9⟩ : ∃ y : Int, (reach : Int) = y := ⟨_, rfl⟩
    obtain ⟨c9, hc9⟩ : ∃ y : Int, (count : Int) = y := ⟨_, rfl⟩
    walk_at "nz"
    rw [hr9, hc9]
    walk_at "go"
    refine we_det (v, s, r9) ?_
    walk_at "go"
    refine ⟨⟨ok', hh, by show 1 ≤ r9; omega, by show r9 ≤ 24; omega⟩, ?_⟩
    walk_at "go"
    refine we_det (c9, 0, 200, "count") ?_
    walk_at "go"
    refine ⟨⟨by show 0 ≤ c9; omega, by show c9 ≤ 200; omega⟩, ?_⟩
    walk_at "go"
    refine we_det (s, r9) ?_
    walk_at "go"
    refine ⟨⟨h0', by show s.2 ≤ r9; omega⟩, ?_⟩
    walk_at "nz"
    refine ws_seq (ws_unpN rfl (we_var rfl ⟨_, _, rfl, ?_⟩))
    walk_at "nz"
    refine ws_seq (ws_set (we_det v ?_))
    walk_at "go"
    refine ⟨ok', ?_⟩
    walk_at "nz"
    refine ws_seq (ws_mulO ?_)
    refine we_lst (wa_cons (we_non (wa_nil ⟨by decide, ?_⟩)))
    refine we_op (we_var rfl (we_int (os_addI ?_)))
    refine ⟨[.none], reach + 1, rfl, by omega, by omega, by show 1 * (reach + 1) ≤ _; exact Nat.le_trans (show _ ≤ 100 by omega) (by decide), ?_⟩
    have er : repD [PyData.none] (reach + 1) = (List.replicate (reach + 1) (none : OI)).map optI := by
      unfold repD
      rw [List.map_replicate]
      induction reach + 1 with
      | zero => rfl
      | succ n ih =>
        rw [List.replicate_succ, List.flatten_cons, ih, List.replicate_succ]
        rfl
    rw [er]
    walk_at "nz"
    have hix : ixN ((List.replicate (reach + 1) (none : OI)).map optI).length s.2 = some s.2.toNat := by
      have : ixN ((List.replicate (reach + 1) (none : OI)).map optI).length ((s.2.toNat : Nat) : Int) = some s.2.toNat := Evl.ixN_nat (by rw [List.length_map, List.length_replicate]; omega)
      rw [Int.toNat_of_nonneg h0'] at this
      exact this
    refine ws_seq (ws_setIx (xs := (List.replicate (reach + 1) (none : OI)).map optI) rfl ?_)
    refine we_var rfl (we_var rfl ⟨s.2.toNat, hix, ?_⟩)
    have es : ((List.replicate (reach + 1) (none : OI)).map optI).set s.2.toNat (.int s.1) = (PD.startT reach s.2.toNat s.1).map optI := by
      unfold PD.startT
      rw [List.map_set]
      rfl
    rw [es]
    refine ws_frz (i := 7) rfl ?_
    walk_at "nz"
    refine ws_seq ?_
    refine ws_forR1 (fun i ds' pl' => ∃ x, ds' = [some (.d v.d), some (.d s.d), some (.d (.int r9)), some (.d (.int c9)), some (.d (.int s.1)), some (.d (.int s.2)), some (.d (slD v)), some (.d (.list ((itT v (PD.startT reach s.2.toNat s.1) i).map optI))), x] ∧ pl' = []) count ?_ ?_ ?_
    · refine wa_cons (we_var rfl (wa_nil ⟨c9, rfl, by omega, by omega, by omega, _, rfl, rfl⟩))
    · rintro i ds' pl' hi ⟨x, rfl, rfl⟩
      walk_at "nz"
      refine ws_set (we_det (v, itT v (PD.startT reach s.2.toNat s.1) i) ?_)
      refine wa_cons (we_var rfl (wa_cons (we_var rfl (wa_nil ⟨rfl, ⟨ok', ?_⟩, ?_⟩))))
      · show (itT v (PD.startT reach s.2.toNat s.1) i).length ≤ 25
        rw [itT_len, startT_len]
        omega
      exact ⟨_, rfl, rfl⟩
    · rintro ds' pl' ⟨x, rfl, rfl⟩
      walk_at "go"
      exact h'

theorem ok_check_rounds (T : Tx K mg) (D_check_hand : D_check_hand_ P w K mg base) (D_check_moves : D_check_moves_ P w K mg base) (D_check_round : D_check_round_ P w K mg base) {f : Addr} {fd : FuncData} (F : Here K mg "check_rounds" s_check_rounds ["device", "hand", "moves"] f fd) : D_check_rounds_ P w K mg base := by
  refine F.df (fgP F.1 sc_check_rounds (fun ds k h => ?_) fun cdv B fr s H E hg hr => ⟨_, ((pss_cons (ps_expr (pe_callD D_check_hand hg (hr.mono (by decide)) (by rfl) (pa_cons (pv 0) (pa_cons (pv 1) pa_nil))))
      (pss_cons (ps_expr (pe_callD D_check_moves hg (hr.mono (by decide)) (by rfl) (pa_cons (pv 2) pa_nil)))
      (pss_one (ps_expr (pe_callD D_check_round hg (hr.mono (by decide)) (by rfl) (pa_cons (pv 2) pa_nil))))))), ?_⟩)
  · obtain ⟨a, rfl, _⟩ := h; rfl
  · intro c ds k hc h
    obtain ⟨⟨v, hand, ms⟩, rfl, ⟨ok, ml, mz, m0, ms0⟩, h⟩ := h
    have ok' : v.Ok := ok
    walk_at "go"
    refine we_det (v, hand) ?_
    walk_at "go"
    refine ⟨ok', ?_⟩
    walk_at "go"
    refine we_det ms ?_
    walk_at "go"
    refine ⟨⟨ml, mz⟩, ?_⟩
    walk_at "go"
    refine we_det ms ?_
    walk_at "go"
    refine ⟨⟨m0, ms0⟩, ?_⟩
    walk_at "go"
    exact h

theorem ok_held_heights (T : Tx K mg) (D_check_hand : D_check_hand_ P w K mg base) (D_heights_at : D_heights_at_ P w K mg base) {f : Addr} {fd : FuncData} (F : Here K mg "held_heights" s_held_heights ["device", "hand"] f fd) : D_held_heights_ P w K mg base := by
  refine F.df (fgP F.1 sc_held_heights (fun ds k h => ?_) fun cdv B fr s H E hg hr => ⟨_, ((pss_cons (ps_expr (pe_callD D_check_hand hg (hr.mono (by decide)) (by rfl) (pa_cons (pv 0) (pa_cons (pv 1) pa_nil))))
      (pss_one (ps_ret (pe_callD D_heights_at hg (hr.mono (by decide)) (by rfl) (pa_cons (pv 0) (pa_cons (pv 1) pa_nil))))))), ?_⟩)
  · obtain ⟨a, rfl, _⟩ := h; rfl
  · intro c ds k hc h
    obtain ⟨⟨v, arm⟩, rfl, ok, h⟩ := h
    have ok' : v.Ok := ok
    walk_at "go"
    refine we_det (v, arm) ?_
    walk_at "go"
    refine ⟨ok', ?_⟩
    walk_at "go"
    refine we_det (v, arm) ?_
    walk_at "go"
    refine ⟨ok', ?_⟩
    walk_at "go"
    exact h

theorem ok_check_bars (T : Tx K mg) (D_check_height : D_check_height_ P w K mg base) (D_check_small : D_check_small_ P w K mg base) (D_check_whole : D_check_whole_ P w K mg base) {f : Addr} {fd : FuncData} (F : Here K mg "check_bars" s_check_bars ["device", "hand", "one", "other"] f fd) : D_check_bars_ P w K mg base := by
  refine F.df (fgP F.1 sc_check_bars (fun ds k h => ?_) fun cdv B fr s H E hg hr => ⟨_, ((pss_cons (ps_expr (pe_callD D_check_small hg (hr.mono (by decide)) (by rfl) (pa_cons (pv 0) pa_nil)))
      (pss_cons (ps_expr (pe_callD D_check_whole hg (hr.mono (by decide)) (by rfl) (pa_cons (pv 1) (pa_cons pe_str pa_nil))))
      (pss_cons (ps_expr (pe_callD D_check_height hg (hr.mono (by decide)) (by rfl) (pa_cons (pv 0) (pa_cons (pv 1) (pa_cons (pv 2) (pa_cons pe_str pa_nil))))))
      (pss_one (ps_expr (pe_callD D_check_height hg (hr.mono (by decide)) (by rfl) (pa_cons (pv 0) (pa_cons (pv 1) (pa_cons (pv 3) (pa_cons pe_str pa_nil))))))))))), ?_⟩)
  · obtain ⟨a, rfl, _⟩ := h; rfl
  · intro c ds k hc h
    obtain ⟨⟨v, hand, x, y⟩, rfl, ⟨small, hx, hy⟩, h⟩ := h
    walk_at "go"
    refine we_det v ?_
    walk_at "go"
    refine ⟨small, ?_⟩
    walk_at "go"
    refine we_det (hand, "hand") ?_
    walk_at "go"
    try refine ⟨True.intro, ?_⟩
    walk_at "go"
    refine we_det (v, ((x, hand) : Sv), "one") ?_
    walk_at "go"
    refine ⟨⟨small.1, hx⟩, ?_⟩
    walk_at "go"
    refine we_det (v, ((y, hand) : Sv), "other") ?_
    walk_at "go"
    refine ⟨⟨small.1, hy⟩, ?_⟩
    walk_at "go"
    exact h

theorem ok_span_rise (T : Tx K mg) (D_check_hand : D_check_hand_ P w K mg base) (D_check_least : D_check_least_ P w K mg base) (D_device_slacks : D_device_slacks_ P w K mg base) (D_pump_mean : D_pump_mean_ P w K mg base) {f : Addr} {fd : FuncData} (F : Here K mg "span_rise" s_span_rise ["device", "hand", "span"] f fd) : D_span_rise_ P w K mg base := by
  refine F.df (fgP F.1 sc_span_rise (fun ds k h => ?_) fun cdv B fr s H E hg hr => ⟨_, ((pss_cons (ps_expr (pe_callD D_check_hand hg (hr.mono (by decide)) (by rfl) (pa_cons (pv 0) (pa_cons (pv 1) pa_nil))))
      (pss_cons (ps_expr (pe_callD D_check_least hg (hr.mono (by decide)) (by rfl) (pa_cons (pv 2) (pa_cons pe_int (pa_cons pe_str pa_nil)))))
      (pss_one (ps_ret (pe_callD D_pump_mean hg (hr.mono (by decide)) (by rfl) (pa_cons (pe_callD D_device_slacks hg (hr.mono (by decide)) (by rfl) (pa_cons (pv 0) pa_nil)) (pa_cons (pv 1) (pa_cons (pv 2) pa_nil))))))))), ?_⟩)
  · obtain ⟨a, rfl, _⟩ := h; rfl
  · intro c ds k hc h
    obtain ⟨⟨v, hand, span⟩, rfl, ⟨ok, s1⟩, h⟩ := h
    have ok' : v.Ok := ok
    have s1' : 1 ≤ span := s1
    walk_at "go"
    refine we_det (v, hand) ?_
    walk_at "go"
    refine ⟨ok', ?_⟩
    walk_at "go"
    refine we_det (span, 1, "span") ?_
    walk_at "go"
    refine ⟨s1', ?_⟩
    walk_at "go"
    refine we_rel (v, hand, span) ?_
    refine wa_cons (we_det v ?_)
    walk_at "go"
    refine ⟨ok', ?_⟩
    walk_at "go"
    refine ⟨ok', fun d q => ?_⟩
    walk_at "go"
    exact h _ q

theorem ok_span_rows (T : Tx K mg) (D_check_hand : D_check_hand_ P w K mg base) (D_common_pitch : D_common_pitch_ P w K mg base) (D_device_slacks : D_device_slacks_ P w K mg base) (D_pump_mean : D_pump_mean_ P w K mg base) {f : Addr} {fd : FuncData} (F : Here K mg "span_rows" s_span_rows ["device", "hand"] f fd) : D_span_rows_ P w K mg base := by
  refine F.df (fgN F.1 sc_span_rows (fun ds k h => ?_) fun cdv B fr s H E hg hr => ⟨_, ((pss_cons (ps_expr (pe_callD D_check_hand hg (hr.mono (by decide)) (by rfl) (pa_cons (pv 0) (pa_cons (pv 1) pa_nil))))
      (pss_cons (ps_asg (pv 0) (pg_tup (n := 2) rfl (pgs_cons (pg_name (i := 2) sc_span_rows.nd rfl (.inl rfl)) (pgs_cons (pg_name (i := 3) sc_span_rows.nd rfl (.inl rfl)) pgs_nil))))
      (pss_cons (ps_set (i := 4) sc_span_rows.nd rfl (.inl rfl) (pe_callD D_device_slacks hg (hr.mono (by decide)) (by rfl) (pa_cons (pv 0) pa_nil)))
      (pss_cons (ps_set (i := 5) sc_span_rows.nd rfl (.inl rfl) (pe_lst pa_nil))
      (pss_cons (ps_set (i := 6) sc_span_rows.nd rfl (.inl rfl) (pe_tup (pa_cons pe_int (pa_cons pe_int pa_nil))))
      (pss_cons (ps_for PassesOwn.never rfl (pi_range2 (by rfl) T.n_range (pa_cons pe_int (pa_cons (pe_op op_addU (pe_op op_addU (pe_callD D_common_pitch hg (hr.mono (by decide)) (by rfl) (pa_cons (pv 0) pa_nil)) (pe_callB (call_max2 rfl) (by rfl) T.n_max (by decide +kernel) (pa_cons (pe_ix (r := rIx K) ix_seq (pv 2) pe_int (fun _ _ => rfl)) (pa_cons (pe_ix (r := rIx K) ix_seq (pv 3) pe_int (fun _ _ => rfl)) pa_nil)))) pe_int) pa_nil))) (pg_name (i := 7) sc_span_rows.nd rfl (.inl rfl)) (pss_cons (ps_set (i := 8) sc_span_rows.nd rfl (.inl rfl) (pe_callD D_pump_mean hg (hr.mono (by decide)) (by rfl) (pa_cons (pv 4) (pa_cons (pv 1) (pa_cons (pv 7) pa_nil)))))
      (pss_one (ps_if (pt_cmpR (r := rNeU K) (op_neU hr.units) (pv 8) (pv 6) (nomark _)) (pss_cons (ps_asg (pv 8) (pg_tup (n := 2) rfl (pgs_cons (pg_name (i := 9) sc_span_rows.nd rfl (.inl rfl)) (pgs_cons (pg_name (i := 10) sc_span_rows.nd rfl (.inl rfl)) pgs_nil))))
      (pss_cons (ps_expr (pe_bm PySem.F.plainAttrs_list PySem.F.slot_list_append PySem.F.type_list_append mt_append (pv 5) (pa_cons (pe_tup (pa_cons (pv 7) (pa_cons (pv 9) (pa_cons (pv 10) pa_nil)))) pa_nil)))
      (pss_one (ps_set (i := 6) sc_span_rows.nd rfl (.inl rfl) (pv 8))))) pss_nil))))
      (pss_one (ps_ret (pv 5)))))))))), ?_⟩)
  · obtain ⟨a, rfl, _⟩ := h; rfl
  · intro c ds k hc h
    obtain ⟨⟨v, arm⟩, rfl, ok, h⟩ := h
    have ok' : v.Ok := ok
    have p1 := ok'.1.p1
    have q1 := ok'.2.p1
    obtain ⟨cm, lc⟩ := com_lcmV ok'
    obtain ⟨eN, N6⟩ := spanN_eq ok' cm lc
    walk_at "go"
    refine we_det (v, arm) ?_
    walk_at "go"
    refine ⟨ok', ?_⟩
    walk_at "nz"
    refine ws_seq (ws_unpN rfl (we_var rfl ⟨_, _, rfl, ?_⟩))
    walk_at "nz"
    refine ws_seq (ws_set (we_det v ?_))
    walk_at "go"
    refine ⟨ok', ?_⟩
    walk_at "nz"
    refine ws_seq (ws_setO (wa_nil ⟨by decide, ?_⟩))
    walk_at "nz"
    refine ws_seq (ws_set (we_tup (wa_cons (we_int (wa_cons (we_int (wa_nil ⟨by decide, ?_⟩)))))))
    walk_at "nz"
    refine ws_seq ?_
    refine ws_forR2 (fun i ds' pl' => ∃ a1 a2 a3 a4, ds' = [some (.d v.d), some (.d (.int arm)), some (.d v.1.d), some (.d v.2.d), some (.d (slD v)), some (.o ((rowsF v arm i).1.map rowD)), some (.d (Sv.d (rowsF v arm i).2)), a1, a2, a3, a4] ∧ pl' = []) 1 ((spanN v : Int) + 1) ?_ ?_ ?_
    · refine wa_cons (we_int (wa_cons (we_op (we_op (we_det v ?_)))))
      walk_at "go"
      refine ⟨ok', ?_⟩
      walk_at "go"
      refine ⟨by rw [eN], ⟨by decide, by decide, by omega, by omega⟩, _, _, _, _, rfl, rfl⟩
    · rintro i ds' pl' hi ⟨a1, a2, a3, a4, rfl, rfl⟩
      obtain ⟨i9, hi9⟩ : ∃ i9 : Int, (i : Int) = i9 := ⟨_, rfl⟩
      have hsp : (1 : Int) + (i : Int) = (i : Int) + 1 := Int.add_comm _ _
      have hlt : (1 : Int) + (i : Int) < (spanN v : Int) + 1 := by omega
      have rl := rowsF_len v arm i
      have len : ((rowsF v arm i).1.map rowD).length < sizeLine := by
        rw [List.length_map]
        exact Nat.lt_of_le_of_lt (show _ ≤ 1000 by omega) (by decide)
      walk_at "nz"
      refine ws_seq (ws_set (we_rel (v, arm, (1 : Int) + (i : Int)) ?_))
      walk_at "go"
      refine ⟨ok', fun d q => ?_⟩
      obtain ⟨t, b, mn, rfl⟩ := q
      have em := mOf_eq ok' (show Mean v [1 + (i : Int), -(1 + (i : Int))] arm t b from mn)
      rw [hsp] at em
      walk_at "nz"
      refine ws_if (wt_B ?_)
      walk_at "go"
      refine os_neUD rfl rfl ?_
      rw [show PyData.eqv (.tuple [.int t, .int b]) (Sv.d (rowsF v arm i).2) = decide ((t, b) = (rowsF v arm i).2) from eqv_two _ _ _ _]
      by_cases he : (t, b) = (rowsF v arm i).2
      · rw [decide_eq_true he]
        refine iteN rfl ?_
        refine ws_next ?_
        have e : rowsF v arm (i + 1) = rowsF v arm i := rowsF_no (by rw [← em]; exact he)
        rw [← e]
        exact ⟨_, _, _, _, rfl, rfl⟩
      · rw [decide_eq_false he]
        refine iteV rfl ?_
        have e := rowsF_yes (v := v) (arm := arm) (n := i) (by rw [← em]; exact he)
        walk_at "nz"
        refine ws_seq (ws_unpN rfl (we_var rfl ⟨_, _, rfl, ?_⟩))
        walk_at "nz"
        refine ws_seq (ws_app (xs := (rowsF v arm i).1.map rowD) rfl ?_)
        walk_at "go"
        walk_at "nz"
        refine ⟨len, ?_⟩
        refine ws_set (we_var rfl ?_)
        have e1 : (rowsF v arm i).1.map rowD ++ [.tuple [.int (1 + (i : Int)), .int t, .int b]] = (rowsF v arm (i + 1)).1.map rowD := by
          rw [e, ← em, hsp, List.map_append]
          rfl
        have e2 : PyData.tuple [.int t, .int b] = Sv.d (rowsF v arm (i + 1)).2 := by
          rw [e, ← em]
        rw [e1, e2]
        exact ⟨_, _, _, _, rfl, rfl⟩
    · rintro ds' pl' ⟨a1, a2, a3, a4, rfl, rfl⟩
      refine ws_ret (we_var rfl ?_)
      have e : ((spanN v : Int) + 1 - 1).toNat = spanN v := by omega
      rw [e]
      exact h

theorem ok_clash_index (T : Tx K mg) (D_all_bars : D_all_bars_ P w K mg base) (D_check_told : D_check_told_ P w K mg base) (D_device_slacks : D_device_slacks_ P w K mg base) (D_seen_bars : D_seen_bars_ P w K mg base) {f : Addr} {fd : FuncData} (F : Here K mg "clash_index" s_clash_index ["device", "looks"] f fd) : D_clash_index_ P w K mg base := by
  refine F.df (fgP F.1 sc_clash_index (fun ds k h => ?_) fun cdv B fr s H E hg hr => ⟨_, ((pss_cons (ps_expr (pe_callD D_check_told hg (hr.mono (by decide)) (by rfl) (pa_cons (pv 0) (pa_cons (pv 1) pa_nil))))
      (pss_cons (ps_set (i := 2) sc_clash_index.nd rfl (.inl rfl) (pe_callD D_device_slacks hg (hr.mono (by decide)) (by rfl) (pa_cons (pv 0) pa_nil)))
      (pss_cons (ps_set (i := 3) sc_clash_index.nd rfl (.inl rfl) (pe_callD D_all_bars hg (hr.mono (by decide)) (by rfl) (pa_cons (pv 2) pa_nil)))
      (pss_cons (ps_for PassesOwn.never rfl (pi_enum (by rfl) T.n_enumerate (pa_cons (pv 1) pa_nil)) (pg_tup (n := 2) rfl (pgs_cons (pg_name (i := 4) sc_clash_index.nd rfl (.inl rfl)) (pgs_cons (pg_name (i := 5) sc_clash_index.nd rfl (.inl rfl)) pgs_nil))) (pss_cons (ps_set (i := 3) sc_clash_index.nd rfl (.inl rfl) (pe_callD D_seen_bars hg (hr.mono (by decide)) (by rfl) (pa_cons (pv 2) (pa_cons (pv 3) (pa_cons (pv 5) pa_nil)))))
      (pss_one (ps_if (pt_cmpR (r := rEqU K) (op_eqU hr.units) (pe_callB (r := rLenQ K) call_len_seq (by rfl) T.n_len (by decide +kernel) (pa_cons (pv 3) pa_nil)) pe_int (nomark _)) (pss_one (ps_ret (pv 4))) pss_nil))))
      (pss_one (ps_ret pe_non))))))), ?_⟩)
  · obtain ⟨a, rfl, _⟩ := h; rfl
  · intro c ds k hc h
    obtain ⟨⟨v, ns⟩, rfl, ⟨ok, nl, nz⟩, h⟩ := h
    have ok' : v.Ok := ok
    have nl' : ns.length ≤ 12 := nl
    have h' : ∀ d, ((d = .none ∧ ∀ i, i < ns.length → fitL v (ns.take (i + 1)) ≠ []) ∨ ∃ i : Nat, i < ns.length ∧ d = .int (i : Int) ∧ fitL v (ns.take (i + 1)) = [] ∧ ∀ j, j < i → fitL v (ns.take (j + 1)) ≠ []) → k d := h
    walk_at "go"
    refine we_det (v, ns) ?_
    walk_at "go"
    refine ⟨⟨ok', nl, nz⟩, ?_⟩
    walk_at "go"
    refine we_det v ?_
    walk_at "go"
    refine ⟨ok', ?_⟩
    walk_at "go"
    refine we_det v ?_
    walk_at "go"
    refine ⟨ok', ?_⟩
    walk_at "nz"
    refine ws_seq ?_
    refine ws_forEL (fun i ds' pl' => ∃ a b, ds' = [some (.d v.d), some (.d (.list (ns.map Sv.d))), some (.d (slD v)), some (.d (.list ((fitL v (ns.take i)).map barD))), a, b] ∧ pl' = [] ∧ ∀ j, j < i → fitL v (ns.take (j + 1)) ≠ []) (ns.map Sv.d) ?_ ?_ ?_
    · refine wa_cons (we_var rfl (wa_nil ⟨rfl, _, _, rfl, rfl, fun j hj => absurd hj (Nat.not_lt_zero _)⟩))
    · rintro i x ds' pl' hx ⟨a, b, rfl, rfl, lo⟩
      rw [List.getElem?_map] at hx
      cases ht : ns[i]? with
      | none => rw [ht] at hx; cases hx
      | some q =>
        rw [ht] at hx
        cases hx
        have hlt := (List.getElem?_eq_some_iff.mp ht).1
        obtain ⟨i9, hi9⟩ : ∃ i9 : Int, (i : Int) = i9 := ⟨_, rfl⟩
        have e := fitL_succ v ns ht
        rw [hi9]
        walk_at "nz"
        refine ws_seq (ws_set (we_det (v, fitL v (ns.take i), q) ?_))
        walk_at "go"
        refine ⟨⟨ok', fit_len ok' _⟩, ?_⟩
        rw [show seenL (v, fitL v (ns.take i), q).1 (v, fitL v (ns.take i), q).2.1 (v, fitL v (ns.take i), q).2.2 = fitL v (ns.take (i + 1)) from e.symm]
        walk_at "nz"
        refine ws_if (wt_B ?_)
        walk_at "go"
        refine ite2 (fun hb => ?_) (fun hb => ?_)
        · have hz := of_decide_eq_true hb
          have fz : fitL v (ns.take (i + 1)) = [] := by
            apply List.eq_nil_of_length_eq_zero
            rw [List.length_map] at hz
            omega
          walk_at "go"
          refine h' _ (.inr ⟨i, hlt, by rw [hi9], fz, lo⟩)
        · refine ws_next ?_
          refine ⟨_, _, rfl, rfl, fun j hj => ?_⟩
          rcases Nat.lt_succ_iff_lt_or_eq.mp hj with z | z
          · exact lo j z
          · rw [z]
            intro fz
            apply hb
            rw [fz]
            rfl
    · rintro ds' pl' ⟨a, b, rfl, rfl, lo⟩
      rw [List.length_map] at lo
      walk_at "go"
      exact h' _ (.inl ⟨rfl, lo⟩)

theorem ok_are_alike (T : Tx K mg) (D_check_both : D_check_both_ P w K mg base) (D_shifted_device : D_shifted_device_ P w K mg base) {f : Addr} {fd : FuncData} (F : Here K mg "are_alike" s_are_alike ["device", "state", "second", "start"] f fd) : D_are_alike_ P w K mg base := by
  refine F.df (fgP F.1 sc_are_alike (fun ds k h => ?_) fun cdv B fr s H E hg hr => ⟨_, ((pss_cons (ps_expr (pe_callD D_check_both hg (hr.mono (by decide)) (by rfl) (pa_cons (pv 0) (pa_cons (pv 1) (pa_cons (pv 2) (pa_cons (pv 3) pa_nil))))))
      (pss_one (ps_ret (pe_cmpR (r := rEqU K) (op_eqU hr.units) (pe_callD D_shifted_device hg (hr.mono (by decide)) (by rfl) (pa_cons (pv 0) (pa_cons (pv 1) pa_nil))) (pe_callD D_shifted_device hg (hr.mono (by decide)) (by rfl) (pa_cons (pv 2) (pa_cons (pv 3) pa_nil))) (nomark _)))))), ?_⟩)
  · obtain ⟨a, rfl, _⟩ := h; rfl
  · intro c ds k hc h
    obtain ⟨⟨⟨v, s⟩, w', t⟩, rfl, ⟨hv, hw⟩, h⟩ := h
    walk_at "go"
    refine we_det ((v, s), w', t) ?_
    walk_at "go"
    refine ⟨⟨hv, hw⟩, ?_⟩
    walk_at "nz"
    refine ws_ret (we_op ?_)
    refine we_callW ?_ devF_mono
    refine wa_cons (we_var rfl (wa_cons (we_var rfl (wa_nil ⟨(v, s), rfl, hv.1, fun b t1 a1 e1 la1 lb1 m1 q1 => ⟨_, m1.r, ?_⟩⟩))))
    refine we_callW ?_ devF_mono
    refine wa_cons (we_var rfl (wa_cons (we_var rfl (wa_nil ⟨(w', t), rfl, hw.1, fun e t2 a2 e2 la2 lb2 m2 q2 => ⟨_, m2.r, ?_⟩⟩))))
    obtain ⟨p1, p2, c1, c2⟩ := q1
    obtain ⟨r1, r2, f1, f2⟩ := q2
    show OpS _ _ _ b.d e.d _ _
    refine os_eqUD (shaped_of (Dv.Ok.okD (v := b) ⟨p1.1, p2.1⟩ 17)) (shaped_of (Dv.Ok.okD (v := e) ⟨r1.1, r2.1⟩ 17)) ?_
    refine h _ ⟨_, rfl, (eqv_dev b e).trans ⟨fun z => ?_, fun ⟨z1, z2⟩ => ?_⟩⟩
    · subst z
      exact ⟨fun n => by rw [← c1, f1], fun n => by rw [← c2, f2]⟩
    · exact Prod.ext (p1.uniq r1 fun n => by rw [c1, f1]; exact z1 n) (p2.uniq r2 fun n => by rw [c2, f2]; exact z2 n)

theorem ok_best_height (T : Tx K mg) (D_best_heights : D_best_heights_ P w K mg base) {f : Addr} {fd : FuncData} (F : Here K mg "best_height" s_best_height ["device", "state", "reach", "count"] f fd) : D_best_height_ P w K mg base := by
  refine F.df (fgP F.1 sc_best_height (fun ds k h => ?_) fun cdv B fr s H E hg hr => ⟨_, ((pss_one (ps_ret (pe_callB (r := rMax K) (cr_max rfl) (by rfl) T.n_max (by decide +kernel) (pa_cons (pe_lc (own := [("height", 4)]) rfl sc_best_height.nd (pi_list (pe_callD D_best_heights hg (hr.mono (by decide)) (by rfl) (pa_cons (pv 0) (pa_cons (pv 1) (pa_cons (pv 2) (pa_cons (pv 3) pa_nil)))))) (blkOk_by (N := ["device", "state", "reach", "count", "height"]) (sc := defScope s_best_height) (by decide +kernel)) (fun _ _ _ _ _ => (pg_name (i := 4) sc_best_height.nd rfl (Or.inl rfl) (Or.inr rfl))) (fun _ _ _ _ _ => (pts_one (pt_cmpR op_notN (pv 4) pe_non (nomark _)))) (fun _ _ _ _ _ => (pv 4))) pa_nil))))), ?_⟩)
  · obtain ⟨a, rfl, _⟩ := h; rfl
  · intro c ds k hc h
    obtain ⟨⟨v, s, reach, count⟩, rfl, pre, h⟩ := h
    have pre' : v.Ok ∧ held v s = true ∧ 1 ≤ reach ∧ reach ≤ 24 ∧ count ≤ 200 ∧ 0 ≤ s.2 ∧ s.2 ≤ (reach : Int) := pre
    obtain ⟨ok', hh, r1, r24, c200, h0, h1⟩ := id pre'
    walk_at "nz"
    refine ws_ret (we_cb (wa_cons ?_))
    refine we_lcL (fun i acc pl' => pl' = [] ∧ acc = (((itT v (PD.startT reach s.2.toNat s.1) count).take i).filterMap id).map PyData.int) ((itT v (PD.startT reach s.2.toNat s.1) count).map optI) (no_of rfl _) ?_ ?_ ?_
    · refine we_det (v, s, reach, count) ?_
      refine wa_cons (we_var rfl (wa_cons (we_var rfl (wa_cons (we_var rfl (wa_cons (we_var rfl (wa_nil ⟨rfl, pre', rfl, rfl, rfl⟩))))))))
    · rintro i x acc pl' hx ⟨rfl, rfl⟩ pin
      rw [List.getElem?_map] at hx
      cases ht : (itT v (PD.startT reach s.2.toNat s.1) count)[i]? with
      | none => rw [ht] at hx; cases hx
      | some o =>
        rw [ht] at hx
        cases hx
        have il := itT_len v (PD.startT reach s.2.toNat s.1) count
        rw [startT_len] at il
        have len : ((((itT v (PD.startT reach s.2.toNat s.1) count).take i).filterMap id).map PyData.int).length < sizeLine := by
          rw [List.length_map]
          exact Nat.lt_of_le_of_lt (Nat.le_trans (List.length_filterMap_le _ _) (show _ ≤ 1000 by rw [List.length_take]; omega)) (by decide)
        walk_at "nz"
        refine wt_B (we_op (we_var rfl (we_non (os_notN ?_))))
        rw [nonB_opt]
        cases o with
        | none =>
          refine iteN rfl ?_
          refine ⟨rfl, ?_⟩
          rw [List.take_add_one, ht, List.filterMap_append, List.map_append]
          exact (List.append_nil _).symm
        | some x =>
          refine iteV rfl ?_
          refine we_var rfl ⟨len, rfl, ?_⟩
          rw [List.take_add_one, ht, List.filterMap_append, List.map_append]
          rfl
    rintro acc pl' ⟨rfl, rfl⟩
    rw [List.length_map, List.take_length]
    refine wa_nil (cb_maxI (tops_ne (by omega) count) fun m hm hmax => ?_)
    exact h _ ⟨m, rfl, hm, hmax⟩

theorem ok_mean_rise (T : Tx K mg) (D_check_rounds : D_check_rounds_ P w K mg base) (D_device_slacks : D_device_slacks_ P w K mg base) (D_slack_mean : D_slack_mean_ P w K mg base) {f : Addr} {fd : FuncData} (F : Here K mg "mean_rise" s_mean_rise ["device", "hand", "moves"] f fd) : D_mean_rise_ P w K mg base := by
  refine F.df (fgP F.1 sc_mean_rise (fun ds k h => ?_) fun cdv B fr s H E hg hr => ⟨_, ((pss_cons (ps_expr (pe_callD D_check_rounds hg (hr.mono (by decide)) (by rfl) (pa_cons (pv 0) (pa_cons (pv 1) (pa_cons (pv 2) pa_nil)))))
      (pss_one (ps_ret (pe_callD D_slack_mean hg (hr.mono (by decide)) (by rfl) (pa_cons (pe_callD D_device_slacks hg (hr.mono (by decide)) (by rfl) (pa_cons (pv 0) pa_nil)) (pa_cons (pv 1) (pa_cons (pv 2) pa_nil)))))))), ?_⟩)
  · obtain ⟨a, rfl, _⟩ := h; rfl
  · intro c ds k hc h
    obtain ⟨⟨v, hand, ms⟩, rfl, ⟨ok, ml, mz, m0, ms0⟩, h⟩ := h
    have ok' : v.Ok := ok
    walk_at "go"
    refine we_det (v, hand, ms) ?_
    walk_at "go"
    refine ⟨⟨ok', ml, mz, m0, ms0⟩, ?_⟩
    walk_at "go"
    refine we_rel (v, hand, ms) ?_
    refine wa_cons (we_det v ?_)
    walk_at "go"
    refine ⟨ok', ?_⟩
    walk_at "go"
    refine ⟨ok', fun d q => ?_⟩
    walk_at "go"
    exact h _ q

theorem ok_stuck_heights (T : Tx K mg) (D_check_rounds : D_check_rounds_ P w K mg base) (D_heights_behind : D_heights_behind_ P w K mg base) {f : Addr} {fd : FuncData} (F : Here K mg "stuck_heights" s_stuck_heights ["device", "hand", "moves"] f fd) : D_stuck_heights_ P w K mg base := by
  refine F.df (fgP F.1 sc_stuck_heights (fun ds k h => ?_) fun cdv B fr s H E hg hr => ⟨_, ((pss_cons (ps_expr (pe_callD D_check_rounds hg (hr.mono (by decide)) (by rfl) (pa_cons (pv 0) (pa_cons (pv 1) (pa_cons (pv 2) pa_nil)))))
      (pss_cons (ps_set (i := 3) sc_stuck_heights.nd rfl (.inr rfl) (pe_callD D_heights_behind hg (hr.mono (by decide)) (by rfl) (pa_cons (pv 0) (pa_cons (pv 1) (pa_cons (pv 2) pa_nil)))))
      (pss_one (ps_ret (pe_lock (pe_lc (own := [("height", 4)]) rfl sc_stuck_heights.nd (pi_keys (pv 3)) (blkOk_by (N := ["device", "hand", "moves", "behind", "height"]) (sc := defScope s_stuck_heights) (by decide +kernel)) (fun _ _ _ _ _ => (pg_name (i := 4) sc_stuck_heights.nd rfl (Or.inl rfl) (Or.inr rfl))) (fun _ _ _ _ _ => (pts_one (pt_cmpR (r := rEqU K) (op_eqU hr.units) (pe_dget (hu_of hr) (pv 3) (pv 4) (fun _ _ => rfl)) (pv 4) (nomark _)))) (fun _ _ _ _ _ => (pv 4))))))))), ?_⟩)
  · obtain ⟨a, rfl, _⟩ := h; rfl
  · intro c ds k hc h
    obtain ⟨⟨v, arm, ms⟩, rfl, pre, h⟩ := h
    have pre' : v.Ok ∧ ms.length ≤ 40 ∧ (∀ m ∈ ms, m ≠ 0) ∧ ms ≠ [] ∧ ms.sum = 0 := pre
    have ok' : v.Ok := pre'.1
    have h' : k (.list ((stuckL v arm ms).map PyData.int)) := h
    obtain ⟨cm, _⟩ := com_lcmV ok'
    have L0 := cm.pos
    have L5 := cm.le
    walk_at "go"
    refine we_det (v, arm, ms) ?_
    walk_at "go"
    refine ⟨pre', ?_⟩
    walk_at "nz"
    refine ws_of_wsk fun G0 D' ft => ?_
    refine wsk_callW ?_ behind_mono
    refine wa_cons (we_var rfl (wa_cons (we_var rfl (wa_cons (we_var rfl (wa_nil ?_))))))
    refine ⟨(v, arm, ms), rfl, ok', fun p F => ?_⟩
    walk_at "nz"
    refine wsk_retLockK ft (fun i acc p' => p' = [] ∧ acc = (((heldL v arm).take i).filter (fun h => decide ((mvs v (h, arm) ms).1 = h))).map PyData.int) (tbF (fun x => (mvs v (x, arm) ms).1) (heldL v arm)) F (no_of rfl _) rfl ⟨rfl, rfl⟩ ?_ ?_
    · rintro i e acc pl' he ⟨rfl, rfl⟩ c' od hp
      rw [List.getElem?_map] at he
      cases ht : (heldL v arm)[i]? with
      | none => rw [ht] at he; cases he
      | some x =>
        rw [ht] at he
        cases he
        have mem : (x, (mvs v (x, arm) ms).1) ∈ tbF (fun x => (mvs v (x, arm) ms).1) (heldL v arm) := List.mem_map.mpr ⟨x, List.mem_of_getElem? ht, rfl⟩
        have nd : ((tbF (fun x => (mvs v (x, arm) ms).1) (heldL v arm)).map (·.1)).Nodup := by
          have e : (tbF (fun x => (mvs v (x, arm) ms).1) (heldL v arm)).map (·.1) = heldL v arm := by
            rw [List.map_map]
            exact List.map_id' _
          rw [e]
          exact heldN_nd _ _ _
        have len : ((((heldL v arm).take i).filter (fun h => decide ((mvs v (h, arm) ms).1 = h))).map PyData.int).length < sizeLine := by
          rw [List.length_map]
          exact Nat.lt_of_le_of_lt (Nat.le_trans (List.length_filter_le _ _) (Nat.le_trans (List.length_take_le' _ _) (Nat.le_trans (heldN_len v arm _) (show _ ≤ 1000 by omega)))) (by decide)
        rw [List.take_add_one, ht]
        show WT _ _ _ _ _
        rw [Option.toList_some, List.filter_append, List.map_append]
        walk_at "nz"
        refine wt_B (we_op ?_)
        refine we_dgetK nd hp rfl rfl mem ?_
        refine we_var rfl (os_eqI ?_)
        walk_at "nz"
        refine ite2 (fun hb => ?_) (fun hb => ?_)
        · refine we_var rfl ⟨len, rfl, ?_⟩
          rw [List.filter_cons_of_pos (p := fun h => decide ((mvs v (h, arm) ms).1 = h)) hb]
          rfl
        · refine ⟨rfl, ?_⟩
          rw [List.filter_cons_of_neg (p := fun h => decide ((mvs v (h, arm) ms).1 = h)) hb]
          exact (List.append_nil _).symm
    · rintro acc pl' ⟨rfl, rfl⟩
      rw [List.length_map, List.take_length]
      exact h'

theorem ok_joining_moves (T : Tx K mg) (D_check_bars : D_check_bars_ P w K mg base) (D_device_slacks : D_device_slacks_ P w K mg base) (D_joining_trail : D_joining_trail_ P w K mg base) (D_pair_place : D_pair_place_ P w K mg base) {f : Addr} {fd : FuncData} (F : Here K mg "joining_moves" s_joining_moves ["device", "hand", "one", "other"] f fd) : D_joining_moves_ P w K mg base := by
  refine F.df (fgP F.1 sc_joining_moves (fun ds k h => ?_) fun cdv B fr s H E hg hr => ⟨_, ((pss_cons (ps_expr (pe_callD D_check_bars hg (hr.mono (by decide)) (by rfl) (pa_cons (pv 0) (pa_cons (pv 1) (pa_cons (pv 2) (pa_cons (pv 3) pa_nil))))))
      (pss_cons (ps_set (i := 4) sc_joining_moves.nd rfl (.inl rfl) (pe_callD D_device_slacks hg (hr.mono (by decide)) (by rfl) (pa_cons (pv 0) pa_nil)))
      (pss_cons (ps_set (i := 5) sc_joining_moves.nd rfl (.inl rfl) (pe_callD D_pair_place hg (hr.mono (by decide)) (by rfl) (pa_cons (pv 4) (pa_cons (pv 1) (pa_cons (pv 2) (pa_cons (pv 3) pa_nil))))))
      (pss_cons (ps_if (pt_cmpR op_ge (pe_ix (r := rIx K) ix_seq (pv 5) pe_int (fun _ _ => rfl)) (pe_callBfun cr_lcm (by rfl) T.b_lcm (pa_cons (pe_ix (r := rIx K) ix_seq (pe_ix (r := rIx K) ix_seq (pv 0) pe_int (fun _ _ => rfl)) pe_int (fun _ _ => rfl)) (pa_cons (pe_ix (r := rIx K) ix_seq (pe_ix (r := rIx K) ix_seq (pv 0) pe_int (fun _ _ => rfl)) pe_int (fun _ _ => rfl)) pa_nil))) (nomark _)) (pss_one (ps_ret pe_non)) pss_nil)
      (pss_one (ps_ret (pe_callD D_joining_trail hg (hr.mono (by decide)) (by rfl) (pa_cons (pv 4) (pa_cons (pv 5) pa_nil)))))))))), ?_⟩)
  · obtain ⟨a, rfl, _⟩ := h; rfl
  · intro c ds k hc h
    obtain ⟨⟨v, hand, x, y⟩, rfl, bars, h⟩ := h
    have ok' : v.Ok := bars.1.1
    have p1 := ok'.1.p1
    have q1 := ok'.2.p1
    walk_at "go"
    refine we_det (v, hand, x, y) ?_
    walk_at "go"
    refine ⟨bars, ?_⟩
    walk_at "nz"
    refine ws_seq (ws_set (we_det v (wa_cons (we_var rfl (wa_nil ⟨rfl, ok', ?_⟩)))))
    walk_at "nz"
    refine ws_seq (ws_set (we_det (v, hand, x, y) ?_))
    refine wa_cons (we_var rfl (wa_cons (we_var rfl (wa_cons (we_var rfl (wa_cons (we_var rfl (wa_nil ⟨rfl, ok', ?_⟩))))))))
    have fin : ∀ o, JoinM v (min x y, hand) ((y - x).natAbs : Int) o → k (oL o) := fun o z => h _ ⟨o, z, rfl⟩
    obtain ⟨s, hs⟩ : ∃ s : Sv, ((min x y, hand) : Sv) = s := ⟨_, rfl⟩
    obtain ⟨g, hg⟩ : ∃ g : Int, ((y - x).natAbs : Int) = g := ⟨_, rfl⟩
    rw [show pl3 (v, hand, x, y).1 (min (v, hand, x, y).2.2.1 (v, hand, x, y).2.2.2, (v, hand, x, y).2.1) (((v, hand, x, y).2.2.2 - (v, hand, x, y).2.2.1).natAbs : Int) = pl3 v s g by
      rw [← hs, ← hg]]
    rw [hs, hg] at fin
    have g0 : 0 ≤ g := by omega
    walk_at "nz"
    refine ws_seq (ws_if (wt_B (we_op (we_op (we_var rfl (we_int ?_))))))
    refine os_ix (e := .int g) rfl ?_
    refine we_cb (wa_cons (we_op (we_op (we_var rfl (we_int (os_t0 ?_))))))
    refine we_int (os_t0 ?_)
    refine wa_cons (we_op (we_op (we_var rfl (we_int (os_t1 ?_)))))
    refine we_int (os_t0 ?_)
    have p24 := ok'.1.p24
    have q24 := ok'.2.p24
    refine wa_nil (cb_lcm (Nat.lt_of_le_of_lt (show _ ≤ 100 by omega) (by decide)) (Nat.lt_of_le_of_lt (show _ ≤ 100 by omega) (by decide)) ?_)
    rw [show ((Nat.lcm v.1.p.natAbs v.2.p.natAbs : Nat) : Int) = lcmV v from rfl]
    refine os_ge ?_
    obtain ⟨L, hL⟩ : ∃ L, lcmV v = L := ⟨_, rfl⟩
    have L0 : 0 < L := by rw [← hL]; exact (com_lcmV ok').1.pos
    rw [hL]
    walk_at "nz"
    refine ite2 (fun hb => ?_) (fun hb => ?_)
    · walk_at "go"
      refine fin none fun ns _ e => ?_
      have := gapM_far ok' (s := s) (g := g) (by rw [hL]; exact of_decide_eq_true hb) ns
      omega
    · have gL : g < L := by
        rcases Int.lt_or_le g L with z | z
        · exact z
        · exact absurd (decide_eq_true z) hb
      refine ws_next ?_
      walk_at "nz"
      refine ws_ret (we_rel (v, s, g) ?_)
      refine wa_cons (we_var rfl (wa_cons (we_var rfl (wa_nil ⟨rfl, ⟨bars.1, g0, by rw [hL]; exact gL⟩, fun d q => ?_⟩))))
      obtain ⟨o, jo, rfl⟩ := q
      exact fin o jo

theorem ok_joining_count (T : Tx K mg) (D_joining_moves : D_joining_moves_ P w K mg base) {f : Addr} {fd : FuncData} (F : Here K mg "joining_count" s_joining_count ["device", "hand", "one", "other"] f fd) : D_joining_count_ P w K mg base := by
  refine F.df (fgP F.1 sc_joining_count (fun ds k h => ?_) fun cdv B fr s H E hg hr => ⟨_, ((pss_cons (ps_set (i := 4) sc_joining_count.nd rfl (.inl rfl) (pe_callD D_joining_moves hg (hr.mono (by decide)) (by rfl) (pa_cons (pv 0) (pa_cons (pv 1) (pa_cons (pv 2) (pa_cons (pv 3) pa_nil))))))
      (pss_cons (ps_if (pt_cmpR op_isN (pv 4) pe_non (nomark _)) (pss_one (ps_ret pe_non)) pss_nil)
      (pss_one (ps_ret (pe_callB (r := rLenQ K) call_len_seq (by rfl) T.n_len (by decide +kernel) (pa_cons (pv 4) pa_nil))))))), ?_⟩)
  · obtain ⟨a, rfl, _⟩ := h; rfl
  · intro c ds k hc h
    obtain ⟨⟨v, hand, x, y⟩, rfl, bars, h⟩ := h
    walk_at "nz"
    refine ws_seq (ws_set (we_rel (v, hand, x, y) ?_))
    refine wa_cons (we_var rfl (wa_cons (we_var rfl (wa_cons (we_var rfl (wa_cons (we_var rfl (wa_nil ⟨rfl, bars, fun d q => ?_⟩))))))))
    obtain ⟨o, jo, rfl⟩ := q
    walk_at "nz"
    refine ws_seq (ws_if (wt_B (we_op (we_var rfl (we_non (os_isN ?_))))))
    cases o with
    | none =>
      refine iteV rfl ?_
      walk_at "go"
      exact h _ ⟨none, jo, rfl⟩
    | some ms =>
      refine iteN rfl ?_
      refine ws_next ?_
      walk_at "nz"
      refine ws_ret (we_cb (wa_cons (we_var (w := .d (.list (ms.map PyData.int))) rfl (wa_nil (cb_lenL ?_)))))
      rw [List.length_map]
      exact h _ ⟨some ms, jo, rfl⟩

theorem ok__law_shift_right (T : Tx K mg) (D__law_pick : D__law_pick_ P w K mg base) (D__law_round : D__law_round_ P w K mg base) (D__law_shifted : D__law_shifted_ P w K mg base) (D_alike_state : D_alike_state_ P w K mg base) (D_are_alike : D_are_alike_ P w K mg base) (D_clash_index : D_clash_index_ P w K mg base) (D_far_state : D_far_state_ P w K mg base) (D_first_time : D_first_time_ P w K mg base) (D_held_heights : D_held_heights_ P w K mg base) (D_mean_rise : D_mean_rise_ P w K mg base) (D_moved_state : D_moved_state_ P w K mg base) (D_round_cycle : D_round_cycle_ P w K mg base) (D_span_rows : D_span_rows_ P w K mg base) (D_stuck_heights : D_stuck_heights_ P w K mg base) {f : Addr} {fd : FuncData} (F : Here K mg "_law_shift_right" s__law_shift_right ["jar", "pair", "stand", "steps"] f fd) : D__law_shift_right_ P w K mg base := by
  refine F.df (fgO F.1 sc__law_shift_right (fun pl ds k h => ?_) fun cdv B fr s H E hg hr => ⟨_, ((pss_cons (ps_par (i := 4) (j := 5) rfl sc__law_shift_right.nd rfl rfl (by decide) rfl rfl (pa_cons (pe_op op_sub (pe_callD D__law_pick hg (hr.mono (by decide)) (by rfl) (pa_cons (pv 0) (pa_cons (pe_op op_powW pe_int pe_int) pa_nil))) (pe_op op_powW pe_int pe_int)) (pa_cons (pe_op op_sub (pe_callD D__law_pick hg (hr.mono (by decide)) (by rfl) (pa_cons (pv 0) (pa_cons pe_int pa_nil))) pe_int) pa_nil)) (by rfl))
      (pss_cons (ps_set (i := 6) sc__law_shift_right.nd rfl (.inl rfl) (pe_tup (pa_cons (pe_callD D__law_shifted hg (hr.mono (by decide)) (by rfl) (pa_cons (pe_ix (r := rIx K) ix_seq (pv 1) pe_int (fun _ _ => rfl)) (pa_cons (pv 4) pa_nil))) (pa_cons (pe_callD D__law_shifted hg (hr.mono (by decide)) (by rfl) (pa_cons (pe_ix (r := rIx K) ix_seq (pv 1) pe_int (fun _ _ => rfl)) (pa_cons (pv 5) pa_nil))) pa_nil))))
      (pss_cons (ps_set (i := 7) sc__law_shift_right.nd rfl (.inl rfl) (pe_tup (pa_cons (pe_op op_addU (pe_ix (r := rIx K) ix_seq (pv 2) pe_int (fun _ _ => rfl)) (pv 4)) (pa_cons (pe_op op_sub (pe_op op_addU (pe_ix (r := rIx K) ix_seq (pv 2) pe_int (fun _ _ => rfl)) (pv 4)) (pv 5)) pa_nil))))
      (pss_cons (ps_if (PW.pt (pw_or (pt_not (pt_val (pe_callD D_are_alike hg (hr.mono (by decide)) (by rfl) (pa_cons (pv 1) (pa_cons (pv 2) (pa_cons (pv 6) (pa_cons (pv 7) pa_nil))))))) (pw_or1 (pt_cmpR op_lt (pe_ix (r := rIx K) ix_seq (pe_callD D_alike_state hg (hr.mono (by decide)) (by rfl) (pa_cons (pv 6) (pa_cons (pv 7) pa_nil))) pe_int (fun _ _ => rfl)) pe_int (nomark _))))) (pss_one (ps_ret pe_bl)) pss_nil)
      (pss_cons (ps_set (i := 8) sc__law_shift_right.nd rfl (.inl rfl) (pe_callD D_moved_state hg (hr.mono (by decide)) (by rfl) (pa_cons (pv 1) (pa_cons (pv 2) (pa_cons (pv 3) pa_nil)))))
      (pss_cons (ps_set (i := 9) sc__law_shift_right.nd rfl (.inl rfl) (pe_callD D_moved_state hg (hr.mono (by decide)) (by rfl) (pa_cons (pv 6) (pa_cons (pv 7) (pa_cons (pv 3) pa_nil)))))
      (pss_cons (ps_if (pt_cmpR (r := rNeU K) (op_neU hr.units) (pe_tup (pa_cons (pe_op op_addU (pe_ix (r := rIx K) ix_seq (pv 8) pe_int (fun _ _ => rfl)) (pv 4)) (pa_cons (pe_op op_sub (pe_op op_addU (pe_ix (r := rIx K) ix_seq (pv 8) pe_int (fun _ _ => rfl)) (pv 4)) (pv 5)) pa_nil))) (pv 9) (nomark _)) (pss_one (ps_ret pe_bl)) pss_nil)
      (pss_cons (ps_set (i := 8) sc__law_shift_right.nd rfl (.inl rfl) (pe_callD D_far_state hg (hr.mono (by decide)) (by rfl) (pa_cons (pv 1) (pa_cons (pv 2) (pa_cons (pv 3) (pa_cons (pe_op op_powW pe_int pe_int) pa_nil))))))
      (pss_cons (ps_set (i := 9) sc__law_shift_right.nd rfl (.inl rfl) (pe_callD D_far_state hg (hr.mono (by decide)) (by rfl) (pa_cons (pv 6) (pa_cons (pv 7) (pa_cons (pv 3) (pa_cons (pe_op op_powW pe_int pe_int) pa_nil))))))
      (pss_cons (ps_if (pt_cmpR (r := rNeU K) (op_neU hr.units) (pe_tup (pa_cons (pe_op op_addU (pe_ix (r := rIx K) ix_seq (pv 8) pe_int (fun _ _ => rfl)) (pv 4)) (pa_cons (pe_op op_sub (pe_op op_addU (pe_ix (r := rIx K) ix_seq (pv 8) pe_int (fun _ _ => rfl)) (pv 4)) (pv 5)) pa_nil))) (pv 9) (nomark _)) (pss_one (ps_ret pe_bl)) pss_nil)
      (pss_cons (ps_if (pt_cmpR (r := rNeU K) (op_neU hr.units) (pe_callD D_round_cycle hg (hr.mono (by decide)) (by rfl) (pa_cons (pv 6) (pa_cons (pv 7) (pa_cons (pv 3) pa_nil)))) (pe_callD D_round_cycle hg (hr.mono (by decide)) (by rfl) (pa_cons (pv 1) (pa_cons (pv 2) (pa_cons (pv 3) pa_nil)))) (nomark _)) (pss_one (ps_ret pe_bl)) pss_nil)
      (pss_cons (ps_set (i := 10) sc__law_shift_right.nd rfl (.inl rfl) (pe_op op_addU (pe_ix (r := rIx K) ix_seq (pv 2) pe_int (fun _ _ => rfl)) (pe_callD D__law_pick hg (hr.mono (by decide)) (by rfl) (pa_cons (pv 0) (pa_cons pe_int pa_nil)))))
      (pss_cons (ps_set (i := 11) sc__law_shift_right.nd rfl (.inl rfl) (pe_callD D_first_time hg (hr.mono (by decide)) (by rfl) (pa_cons (pv 1) (pa_cons (pv 2) (pa_cons (pv 3) (pa_cons (pv 10) pa_nil))))))
      (pss_cons (ps_if (pt_cmpR (r := rNeU K) (op_neU hr.units) (pe_callD D_first_time hg (hr.mono (by decide)) (by rfl) (pa_cons (pv 6) (pa_cons (pv 7) (pa_cons (pv 3) (pa_cons (pe_op op_addU (pv 10) (pv 4)) pa_nil))))) (pv 11) (nomark _)) (pss_one (ps_ret pe_bl)) pss_nil)
      (pss_cons (ps_set (i := 12) sc__law_shift_right.nd rfl (.inl rfl) (pe_callD D__law_round hg (hr.mono (by decide)) (by rfl) (pa_cons (pv 0) (pa_cons pe_int (pa_cons pe_int pa_nil)))))
      (pss_cons (ps_if (pt_cmpR (r := rNeU K) (op_neU hr.units) (pe_callD D_mean_rise hg (hr.mono (by decide)) (by rfl) (pa_cons (pv 6) (pa_cons (pe_ix (r := rIx K) ix_seq (pv 7) pe_int (fun _ _ => rfl)) (pa_cons (pv 12) pa_nil)))) (pe_callD D_mean_rise hg (hr.mono (by decide)) (by rfl) (pa_cons (pv 1) (pa_cons (pe_ix (r := rIx K) ix_seq (pv 2) pe_int (fun _ _ => rfl)) (pa_cons (pv 12) pa_nil)))) (nomark _)) (pss_one (ps_ret pe_bl)) pss_nil)
      (pss_cons (ps_set (i := 13) sc__law_shift_right.nd rfl (.inl rfl) (pe_lst (pa_cons (pe_callB (r := rLenQ K) call_len_seq (by rfl) T.n_len (by decide +kernel) (pa_cons (pe_callD D_held_heights hg (hr.mono (by decide)) (by rfl) (pa_cons (pv 1) (pa_cons (pe_ix (r := rIx K) ix_seq (pv 2) pe_int (fun _ _ => rfl)) pa_nil))) pa_nil)) (pa_cons (pe_callB (r := rLenQ K) call_len_seq (by rfl) T.n_len (by decide +kernel) (pa_cons (pe_callD D_stuck_heights hg (hr.mono (by decide)) (by rfl) (pa_cons (pv 1) (pa_cons (pe_ix (r := rIx K) ix_seq (pv 2) pe_int (fun _ _ => rfl)) (pa_cons (pv 12) pa_nil)))) pa_nil)) pa_nil))))
      (pss_cons (ps_set (i := 14) sc__law_shift_right.nd rfl (.inl rfl) (pe_lst (pa_cons (pe_callB (r := rLenQ K) call_len_seq (by rfl) T.n_len (by decide +kernel) (pa_cons (pe_callD D_held_heights hg (hr.mono (by decide)) (by rfl) (pa_cons (pv 6) (pa_cons (pe_ix (r := rIx K) ix_seq (pv 7) pe_int (fun _ _ => rfl)) pa_nil))) pa_nil)) (pa_cons (pe_callB (r := rLenQ K) call_len_seq (by rfl) T.n_len (by decide +kernel) (pa_cons (pe_callD D_stuck_heights hg (hr.mono (by decide)) (by rfl) (pa_cons (pv 6) (pa_cons (pe_ix (r := rIx K) ix_seq (pv 7) pe_int (fun _ _ => rfl)) (pa_cons (pv 12) pa_nil)))) pa_nil)) pa_nil))))
      (pss_cons (ps_if (pt_cmpR (r := rNeU K) (op_neU hr.units) (pv 14) (pv 13) (nomark _)) (pss_one (ps_ret pe_bl)) pss_nil)
      (pss_cons (ps_set (i := 15) sc__law_shift_right.nd rfl (.inl rfl) (pe_cmpR op_lt (pe_callB (call_max2 rfl) (by rfl) T.n_max (by decide +kernel) (pa_cons (pe_ix (r := rIx K) ix_seq (pe_ix (r := rIx K) ix_seq (pv 1) pe_int (fun _ _ => rfl)) pe_int (fun _ _ => rfl)) (pa_cons (pe_ix (r := rIx K) ix_seq (pe_ix (r := rIx K) ix_seq (pv 1) pe_int (fun _ _ => rfl)) pe_int (fun _ _ => rfl)) pa_nil))) pe_int (nomark _)))
      (pss_cons (ps_if (PW.pt (pw_and (pt_truth (pv 15) (by intro _; rfl)) (pw_and1 (pt_cmpR (r := rNeU K) (op_neU hr.units) (pe_callD D_span_rows hg (hr.mono (by decide)) (by rfl) (pa_cons (pv 1) (pa_cons (pe_ix (r := rIx K) ix_seq (pv 2) pe_int (fun _ _ => rfl)) pa_nil))) (pe_callD D_span_rows hg (hr.mono (by decide)) (by rfl) (pa_cons (pv 6) (pa_cons (pe_ix (r := rIx K) ix_seq (pv 7) pe_int (fun _ _ => rfl)) pa_nil))) (nomark _))))) (pss_one (ps_ret pe_bl)) pss_nil)
      (pss_cons (ps_setLc (i := 16) (own := [("step", 17)]) rfl sc__law_shift_right.nd rfl rfl (sw_true rfl rfl rfl (by decide +kernel)) (pi_list (pe_slice (r := rSlL K) sl_list (pv 3) po_none (po_some pe_int))) (blkOk_by (N := ["jar", "pair", "stand", "steps", "by", "more", "other", "place", "here", "there", "goal", "due", "laps", "told", "again", "is_small", "looks_here", "step"]) (sc := defScope s__law_shift_right) (by decide +kernel)) (fun _ _ _ _ _ => (pg_name (i := 17) sc__law_shift_right.nd rfl (Or.inl rfl) (Or.inr rfl))) (fun _ _ _ _ _ => pts_nil) (fun _ _ _ _ _ => (pe_tup (pa_cons (pv 17) (pa_cons (pe_op op_sub (pe_callD D__law_pick hg (hr.mono (by decide)) (by rfl) (pa_cons (pv 0) (pa_cons pe_int pa_nil))) pe_int) pa_nil)))))
      (pss_one (ps_ret (pe_cmpR (r := rEqU K) (op_eqU hr.units) (pe_callD D_clash_index hg (hr.mono (by decide)) (by rfl) (pa_cons (pv 1) (pa_cons (pv 16) pa_nil))) (pe_callD D_clash_index hg (hr.mono (by decide)) (by rfl) (pa_cons (pv 6) (pa_cons (pv 16) pa_nil))) (nomark _))))))))))))))))))))))))))), ?_⟩)
  · obtain ⟨a, n, rfl, _⟩ := h; rfl
  · intro c p pl ds k hp h
    obtain ⟨⟨v, s, ms⟩, n, rfl, ⟨ok, hs, sb1, sb2, ml, mm⟩, hP, hn, h⟩ := h
    have ok' : v.Ok := ok
    have hs' : held v s = true := hs
    have sb1' : s.1.natAbs ≤ 10 ^ 38 := sb1
    have sb2' : s.2.natAbs ≤ 10 ^ 38 := sb2
    have ml' : ms.length ≤ 12 := ml
    have mm' : ∀ m ∈ ms, m ≠ 0 ∧ m.natAbs ≤ 10 ^ 38 := mm
    have nz : ∀ m ∈ ms, m ≠ 0 := fun m hm => (mm' m hm).1
    obtain ⟨T, hT⟩ : ∃ T : Int, (10 : Int) ^ (36 : Int).toNat = T := ⟨_, rfl⟩
    have T1 : T = 10 ^ 36 := by rw [← hT]; decide +kernel
    obtain ⟨U, hU⟩ : ∃ T : Int, (10 : Int) ^ (35 : Int).toNat = T := ⟨_, rfl⟩
    have U1 : U = 10 ^ 35 := by rw [← hU]; decide +kernel
    have T2 : T < (2 : Int) ^ 200 := by rw [T1]; decide +kernel
    have fin : ∀ pl', Pk (n + 300) pl' → k (.bool true) pl' := fun pl' q => h _ _ rfl q
    walk_at "nz"
    refine ws_seq (ws_par (wa_cons (we_op ?_)))
    refine we_draw T n rfl hp ?_
    refine wa_cons (we_op (we_int (we_int (os_pow (poww (by decide) (by decide) (by decide +kernel) (by decide +kernel)) ?_))))
    rw [hT]
    refine wa_nil ⟨rfl, ⟨by omega, T2⟩, hP, by omega, fun v1 pl1 v10 v11 hP1 => ?_⟩
    refine we_op (we_int (we_int (os_pow (poww (by decide) (by decide) (by decide +kernel) (by decide +kernel)) ?_)))
    rw [hU]
    refine os_sub ?_
    refine wa_cons (we_op ?_)
    refine we_draw 2000 (n + 1) rfl hp ?_
    walk_at "go"
    refine ⟨hP1, by omega, fun v2 pl2 v20 v21 hP2 => ?_⟩
    refine we_int (os_sub ?_)
    refine wa_nil ⟨_, _, rfl, ?_⟩
    obtain ⟨b, hb⟩ : ∃ z : Int, v1 - U = z := ⟨_, rfl⟩
    obtain ⟨m, hm⟩ : ∃ z : Int, v2 - 1000 = z := ⟨_, rfl⟩
    have bb : b.natAbs ≤ 10 ^ 37 := by omega
    have mb : m.natAbs ≤ 1000 := by omega
    rw [hb, hm]
    walk_at "nz"
    refine ws_seq (ws_set (we_tup (wa_cons (we_rel (v.1, b) ?_))))
    refine wa_cons (we_op (we_var rfl (we_int (os_t0 (wa_cons (we_var rfl (wa_nil ⟨rfl, ok'.1, fun d q => ?_⟩)))))))
    obtain ⟨u1, rfl, o1, e1, g1⟩ := q
    refine wa_cons (we_rel (v.2, m) ?_)
    refine wa_cons (we_op (we_var rfl (we_int (os_t1 (wa_cons (we_var rfl (wa_nil ⟨rfl, ok'.2, fun d q => ?_⟩)))))))
    obtain ⟨u2, rfl, o2, e2, g2⟩ := q
    refine wa_nil ⟨by show 2 ≤ sizeLine; decide, ?_⟩
    obtain ⟨u, hu⟩ : ∃ u : Dv, (u1, u2) = u := ⟨_, rfl⟩
    have ou : u.Ok := by rw [← hu]; exact ⟨o1, o2⟩
    have o : Shf v u b m := by rw [← hu]; exact ⟨e1, e2, g1, g2⟩
    rw [show PyData.tuple [u1.d, u2.d] = u.d by rw [← hu]]
    walk_at "nz"
    refine ws_seq (ws_set (we_tup ?_))
    walk_at "go"
    obtain ⟨t, ht⟩ : ∃ t : Sv, sh b m s = t := ⟨_, rfl⟩
    rw [show PyData.tuple [PyData.int (s.1 + b), PyData.int (s.2 + b - m)] = t.d by rw [← ht]]
    have hh : held u t = true := by rw [← ht, o.held]; exact hs'
    have tb1 : t.1.natAbs ≤ 10 ^ 39 := by rw [← ht]; show (s.1 + b).natAbs ≤ 10 ^ 39; omega
    have tb2 : t.2.natAbs ≤ 10 ^ 39 := by rw [← ht]; show (s.2 + b - m).natAbs ≤ 10 ^ 39; omega
    have t2 : t.2 = s.2 + b - m := by rw [← ht]
    walk_at "nz"
    refine we_rel ((v, s), (u, t)) ?_
    walk_at "go"
    refine ⟨⟨⟨ok', hs'⟩, ou, hh⟩, fun d q => ?_⟩
    obtain ⟨bo, rfl, hbo⟩ := q
    have hbt : bo = true := hbo.mpr (by rw [← ht]; exact o.alk s)
    subst hbt
    walk_at "nz"
    refine iteN rfl ?_
    refine wt_B (we_op (we_op (we_rel (u, t) ?_)))
    walk_at "go"
    refine ⟨⟨ou, hh⟩, fun d q => ?_⟩
    obtain ⟨P1, Q1, lp, lq, rfl⟩ := q
    refine we_int (os_t0 (we_int (os_lt ?_)))
    have e0 := Int.emod_nonneg t.1 (show P1 ≠ 0 by have := lp.1; omega)
    rw [decide_eq_false (show ¬ (t.1 % P1 < 0) by omega)]
    walk_at "nz"
    refine iteN rfl ?_
    refine ws_next ?_
    walk_at "nz"
    refine ws_seq (ws_set (we_det (v, s, ms) ?_))
    walk_at "go"
    refine ⟨⟨ok', hs', by show ms.length ≤ 40; omega, nz⟩, ?_⟩
    walk_at "nz"
    refine ws_seq (ws_set (we_det (u, t, ms) ?_))
    walk_at "go"
    refine ⟨⟨ou, hh, by show ms.length ≤ 40; omega, nz⟩, ?_⟩
    rw [show mvs (u, t, ms).1 (u, t, ms).2.1 (u, t, ms).2.2 = sh b m (mvs v s ms) by rw [← ht]; exact o.mvs ok' ou ms s]
    show WS _ _ _ _ _
    generalize mvs v s ms = e
    walk_at "nz"
    refine ws_seq (ws_if (wt_B (we_op (we_tup ?_))))
    walk_at "go"
    refine os_neUD rfl rfl ?_
    rw [eqv_two, decide_eq_true rfl]
    walk_at "nz"
    refine iteN rfl ?_
    refine ws_next ?_
    walk_at "nz"
    have k3 : (10 : Int) ^ (3 : Int).toNat = ((1000 : Nat) : Int) := by decide +kernel
    have BB1 : 10 ^ 39 < BB := Nat.lt_of_lt_of_le (by decide +kernel) BB_ge
    have BB2 : 1000 < BB := Nat.lt_of_lt_of_le (by decide +kernel) BB_ge
    refine ws_seq (ws_set (we_det ((v, s, ms), 1000) ?_))
    refine wa_cons (we_var rfl (wa_cons (we_var rfl (wa_cons (we_var rfl (wa_cons (we_op (we_int (we_int (os_pow (poww (by decide) (by decide) (by decide +kernel) (by decide +kernel)) ?_))))))))))
    rw [k3]
    refine wa_nil ⟨rfl, ⟨ok', hs', by show ms.length ≤ 40; omega, fun x hx => ⟨nz x hx, Nat.lt_of_le_of_lt (Nat.le_trans (mm' x hx).2 (by decide)) BB1⟩, Nat.lt_of_le_of_lt (Nat.le_trans sb1' (by decide)) BB1, BB2⟩, ?_⟩
    walk_at "nz"
    refine ws_seq (ws_set (we_det ((u, t, ms), 1000) ?_))
    refine wa_cons (we_var rfl (wa_cons (we_var rfl (wa_cons (we_var rfl (wa_cons (we_op (we_int (we_int (os_pow (poww (by decide) (by decide) (by decide +kernel) (by decide +kernel)) ?_))))))))))
    rw [k3]
    refine wa_nil ⟨rfl, ⟨ou, hh, by show ms.length ≤ 40; omega, fun x hx => ⟨nz x hx, Nat.lt_of_le_of_lt (Nat.le_trans (mm' x hx).2 (by decide)) BB1⟩, Nat.lt_of_le_of_lt tb1 BB1, BB2⟩, ?_⟩
    have er : rp u ms t 1000 = sh b m (rp v ms s 1000) := by rw [← ht]; exact o.rp ok' ou ms s 1000
    have er1 : (rp ((u, t, ms), 1000).1.1 ((u, t, ms), 1000).1.2.2 ((u, t, ms), 1000).1.2.1 ((u, t, ms), 1000).2) = sh b m (rp v ms s 1000) := er
    rw [er1]
    show WS _ _ _ _ _
    generalize rp v ms s 1000 = e
    walk_at "nz"
    refine ws_seq (ws_if (wt_B (we_op (we_tup ?_))))
    walk_at "go"
    refine os_neUD rfl rfl ?_
    rw [eqv_two, decide_eq_true rfl]
    walk_at "nz"
    refine iteN rfl ?_
    refine ws_next ?_
    walk_at "nz"
    refine ws_seq (ws_if (wt_B (we_op (we_rel (u, t, ms) ?_))))
    walk_at "go"
    refine ⟨⟨ou, hh, by show ms.length ≤ 40; omega, nz⟩, fun d q => ?_⟩
    obtain ⟨n1, j1, cy1, rfl⟩ := q
    have cy1' : Cyc u ms t n1 j1 := cy1
    refine we_rel (v, s, ms) ?_
    walk_at "go"
    refine ⟨⟨ok', hs', by show ms.length ≤ 40; omega, nz⟩, fun d q => ?_⟩
    obtain ⟨n2, j2, cy2, rfl⟩ := q
    rw [← ht] at cy1'
    obtain ⟨ee1, ee2⟩ := Cyc.uniq ((o.cyc ok' ou).mp cy1') cy2
    subst ee1
    subst ee2
    have er2 : ∀ i, (rp (u, t, ms).1 (u, t, ms).2.2 (u, t, ms).2.1 i).1 = (rp (v, s, ms).1 (v, s, ms).2.2 (v, s, ms).2.1 i).1 + b := fun i => by
      show (rp u ms t i).1 = (rp v ms s i).1 + b
      rw [← ht, o.rp ok' ou]
    rw [er2, er2, show (rp (v, s, ms).1 (v, s, ms).2.2 (v, s, ms).2.1 n1).1 + b - ((rp (v, s, ms).1 (v, s, ms).2.2 (v, s, ms).2.1 j1).1 + b) = (rp (v, s, ms).1 (v, s, ms).2.2 (v, s, ms).2.1 n1).1 - (rp (v, s, ms).1 (v, s, ms).2.2 (v, s, ms).2.1 j1).1 by omega]
    refine os_neUD rfl rfl ?_
    rw [eqv_refl _ rfl]
    walk_at "nz"
    refine iteN rfl ?_
    refine ws_next ?_
    walk_at "nz"
    refine ws_seq (ws_set (we_op (we_op (we_var rfl (we_int (os_t0 ?_))))))
    refine we_draw 200 (n + 2) rfl hp ?_
    walk_at "go"
    refine ⟨hP2, by omega, fun v3 pl3 v30 v31 hP3 => ?_⟩
    refine os_addI ?_
    obtain ⟨goal, hg⟩ : ∃ z : Int, s.1 + v3 = z := ⟨_, rfl⟩
    rw [hg]
    have gb : goal.natAbs ≤ 10 ^ 39 := by omega
    walk_at "nz"
    refine ws_seq (ws_set (we_rel ((v, s, ms), goal) ?_))
    walk_at "go"
    refine ⟨⟨ok', hs', by show ms.length ≤ 40; omega, fun x hx => ⟨nz x hx, Nat.le_trans (mm' x hx).2 (by decide)⟩, Nat.le_trans sb1' (by decide), Nat.le_trans gb (by decide)⟩, fun d q => ?_⟩
    obtain ⟨x1, f1, rfl, _⟩ := q
    have f1' : Fst v ms s goal x1 := f1
    walk_at "nz"
    refine ws_seq (ws_if (wt_B (we_op (we_rel ((u, t, ms), goal + b) ?_))))
    walk_at "go"
    refine ⟨⟨ou, hh, by show ms.length ≤ 40; omega, fun x hx => ⟨nz x hx, Nat.le_trans (mm' x hx).2 (by decide)⟩, Nat.le_trans tb1 (by decide), Nat.le_trans (show (goal + b).natAbs ≤ 10 ^ 40 by omega) (by decide)⟩, fun d q => ?_⟩
    obtain ⟨x2, f2, rfl, _⟩ := q
    have f2' : Fst u ms t (goal + b) x2 := f2
    rw [← ht] at f2'
    have ex : x2 = x1 := Fst.uniq ((o.fst ok' ou).mp f2') f1'
    subst ex
    refine we_var rfl ?_
    refine os_neUD (by cases x2 <;> rfl) (by cases x2 <;> rfl) ?_
    rw [eqv_refl _ (by cases x2 <;> rfl)]
    walk_at "nz"
    refine iteN rfl ?_
    refine ws_next ?_
    walk_at "nz"
    refine ws_seq (ws_set (we_poolE rfl hp ?_))
    refine wa_cons (we_int (wa_cons (we_int (wa_nil ⟨(3, 40), rfl, ⟨by show (1 : Int) ≤ 3; decide, by show (3 : Int) ≤ 39; decide, by show (1 : Int) ≤ 40; decide, by show (40 : Int) ≤ 10 ^ 38; decide +kernel⟩, n + 3, hP3, by omega, fun d4 pl4 q4 hP4 => ?_⟩))))
    obtain ⟨ls, rfl, ls0, lsum, ll, lm⟩ := q4
    have ll' : (ls.length : Int) ≤ 3 + 2 := ll
    have lnz : ∀ m ∈ ls, m ≠ 0 := fun m hm => (lm m hm).1
    have ls0' : ls.sum = 0 := lsum
    have preL : ∀ (w : Dv) (a : Int), w.Ok → (w, a, ls).1.Ok ∧ (w, a, ls).2.2.length ≤ 40 ∧ (∀ m ∈ (w, a, ls).2.2, m ≠ 0) ∧ (w, a, ls).2.2 ≠ [] ∧ (w, a, ls).2.2.sum = 0 := fun w a ow => ⟨ow, by show ls.length ≤ 40; omega, lnz, ls0, ls0'⟩
    walk_at "nz"
    refine ws_seq (ws_if (wt_B (we_op (we_rel (u, t.2, ls) ?_))))
    refine wa_cons (we_var rfl (wa_cons (we_op (we_var rfl (we_int (os_t1 (wa_cons (we_var rfl (wa_nil ⟨rfl, preL u t.2 ou, fun d q => ?_⟩)))))))))
    obtain ⟨a1, c1, mn1, rfl⟩ := q
    refine we_rel (v, s.2, ls) ?_
    refine wa_cons (we_var rfl (wa_cons (we_op (we_var rfl (we_int (os_t1 (wa_cons (we_var rfl (wa_nil ⟨rfl, preL v s.2 ok', fun d q => ?_⟩)))))))))
    obtain ⟨a2, c2, mn2, rfl⟩ := q
    have mn3 := o.mean ok' ou (show Mean v ls s.2 a2 c2 from mn2)
    rw [← t2] at mn3
    obtain ⟨z1, z2⟩ := Mean.uniq ou (show Mean u ls t.2 a1 c1 from mn1) mn3
    subst z1
    subst z2
    refine os_neUD rfl rfl ?_
    rw [eqv_two, decide_eq_true rfl]
    walk_at "nz"
    refine iteN rfl ?_
    refine ws_next ?_
    -- how many are held, are stuck
    have so := o.symm
    have back : t.2 + -b - -m = s.2 := by rw [t2]; omega
    have hl : (heldL u t.2).length = (heldL v s.2).length := by
      have h1 := o.held_len ok' ou s.2
      have h2 := so.held_len ou ok' t.2
      rw [← t2] at h1
      rw [back] at h2
      omega
    have hk : (stuckL u t.2 ls).length = (stuckL v s.2 ls).length := by
      have h1 := o.stuck_len ok' ou s.2 ls0'
      have h2 := so.stuck_len ou ok' t.2 ls0'
      rw [← t2] at h1
      rw [back] at h2
      omega
    walk_at "nz"
    refine ws_seq (ws_set (we_lst (wa_cons (we_cb (wa_cons (we_det (v, s.2) ?_))))))
    walk_at "go"
    refine ⟨ok', ?_⟩
    walk_at "go"
    refine we_det (v, s.2, ls) ?_
    walk_at "go"
    refine ⟨preL v s.2 ok', ?_⟩
    walk_at "go"
    refine we_lst (wa_cons (we_cb (wa_cons (we_det (u, t.2) ?_))))
    walk_at "go"
    refine ⟨ou, ?_⟩
    walk_at "go"
    refine we_det (u, t.2, ls) ?_
    walk_at "go"
    refine ⟨preL u t.2 ou, ?_⟩
    walk_at "go"
    simp only [List.length_map]
    rw [hl, hk]
    refine os_neUD rfl rfl ?_
    rw [eqv_refl _ rfl]
    walk_at "nz"
    refine iteN rfl ?_
    refine ws_next ?_
    walk_at "go"
    rw [show truD (PyData.bool (decide (max v.1.p v.2.p < 9))) = decide (max v.1.p v.2.p < 9) from rfl]
    generalize decide (max v.1.p v.2.p < 9) = sm
    have rows : rowsF u t.2 (spanN u) = rowsF v s.2 (spanN v) := by rw [t2, o.spanN]; exact o.rows ok' ou s.2 _
    refine ite_wt (fun hb => ?_) ?_
    · refine wt_T (we_op (we_newL (v, s.2) ?_))
      refine wa_cons (we_var rfl (wa_cons (we_op (we_var rfl (we_int (os_t1 (wa_nil ⟨rfl, ok', ?_⟩)))))))
      refine we_newL (u, t.2) ?_
      refine wa_cons (we_var rfl (wa_cons (we_op (we_var rfl (we_int (os_t1 (wa_nil ⟨rfl, ou, ?_⟩)))))))
      rw [show (rowsF (u, t.2).1 (u, t.2).2 (spanN (u, t.2).1)).1 = (rowsF v s.2 (spanN v)).1 from congrArg Prod.fst rows]
      exact os_neS (okD_rowsF ok' s.2) ⟨rfl, rfl⟩
    refine iteN rfl ?_
    refine ws_next ?_
    walk_at "nz"
    have hP4' : Pk (n + 203) pl4 := hP4
    refine ws_seq (ws_set ?_)
    refine we_lcL (fun i acc p' => ∃ qs : List (Int × Int), acc = qs.map Sv.d ∧ qs.length = i ∧ (∀ q ∈ qs, q.1 ≠ 0) ∧ Pk (n + 203 + i) p') ((ms.take 6).map PyData.int) (no_of rfl _) ?_ ?_ ?_
    · refine we_slice (we_var rfl ⟨_, rfl, wo_none (wo_some (we_int ?_))⟩)
      refine ⟨?_, [], rfl, rfl, (fun q hq => nomatch hq), hP4'⟩
      rw [show PD.cutD (ms.map PyData.int) none (some (6 : Int)) = (ms.take 6).map PyData.int from cut_take ms 6]
    · rintro i x acc p' hx ⟨qs, rfl, ql, qn, hPi⟩ pin
      have hi : i < 6 := by
        have := (List.getElem?_eq_some_iff.mp hx).1
        rw [List.length_map, List.length_take] at this
        omega
      rw [List.getElem?_map] at hx
      cases hy : (ms.take 6)[i]? with
      | none => rw [hy] at hx; cases hx
      | some y =>
        rw [hy] at hx
        cases hx
        have y0 : y ≠ 0 := nz y (List.mem_of_mem_take (List.mem_of_getElem? hy))
        walk_at "nz"
        refine wt_yes ?_
        walk_at "nz"
        refine iteV rfl ?_
        refine we_tup (wa_cons (we_var rfl (wa_cons (we_op ?_))))
        refine we_draw 5 (n + 203 + i) rfl hp ?_
        walk_at "go"
        refine ⟨hPi, by omega, fun v6 pl6 v60 v61 hP6 => ?_⟩
        refine we_int (os_sub (wa_nil ⟨by show 2 ≤ sizeLine; decide, ?_⟩))
        refine ⟨by rw [List.length_map]; exact Nat.lt_of_le_of_lt (show _ ≤ 100 by omega) (by decide), qs ++ [(y, v6 - 1)], by rw [List.map_append]; rfl, by rw [List.length_append, ql]; rfl, fun q hq => ?_, hP6⟩
        rcases List.mem_append.mp hq with z | z
        · exact qn q z
        · rw [List.mem_singleton.mp z]; exact y0
    rintro acc p' ⟨qs, rfl, ql, qn, hPe⟩
    have qlen : qs.length ≤ 12 := by
      rw [ql, List.length_map, List.length_take]
      omega
    have hPf : Pk (n + 300) p' := hPe.up (by rw [List.length_map, List.length_take]; omega)
    walk_at "nz"
    refine ws_ret (we_op (we_rel (v, qs) ?_))
    walk_at "go"
    refine ⟨⟨ok', qlen, qn⟩, fun d q1 => ?_⟩
    refine we_rel (u, qs) ?_
    walk_at "go"
    refine ⟨⟨ou, qlen, qn⟩, fun e q2 => ?_⟩
    have ff : ∀ i, fitL u (qs.take i) = [] ↔ fitL v (qs.take i) = [] := fun i => o.fit ok' ou _
    have q2' : (e = .none ∧ ∀ i, i < qs.length → fitL v (qs.take (i + 1)) ≠ []) ∨ ∃ i : Nat, i < qs.length ∧ e = .int (i : Int) ∧ fitL v (qs.take (i + 1)) = [] ∧ ∀ j, j < i → fitL v (qs.take (j + 1)) ≠ [] := by
      rcases q2 with ⟨a1, a2⟩ | ⟨i, a1, a2, a3, a4⟩
      · exact .inl ⟨a1, fun i hi z => a2 i hi ((ff _).mpr z)⟩
      · exact .inr ⟨i, a1, a2, (ff _).mp a3, fun j hj z => a4 j hj ((ff _).mpr z)⟩
    have ee := due_uniq q1 q2'
    subst ee
    have okd : okD 20 e := by
      rcases q2' with ⟨rfl, _⟩ | ⟨i, hi, rfl, _, _⟩
      · trivial
      · exact Nat.lt_of_le_of_lt (show ((i : Nat) : Int).natAbs ≤ 1000 by omega) (by decide +kernel)
    exact os_eqS okd (fin _ hPf)

theorem ok__law_times_right (T : Tx K mg) (D__law_pick : D__law_pick_ P w K mg base) (D__law_round : D__law_round_ P w K mg base) (D__law_times : D__law_times_ P w K mg base) (D__law_under : D__law_under_ P w K mg base) (D_best_height : D_best_height_ P w K mg base) (D_held_heights : D_held_heights_ P w K mg base) (D_joining_count : D_joining_count_ P w K mg base) (D_mean_rise : D_mean_rise_ P w K mg base) (D_moved_state : D_moved_state_ P w K mg base) (D_span_rise : D_span_rise_ P w K mg base) {f : Addr} {fd : FuncData} (F : Here K mg "_law_times_right" s__law_times_right ["jar", "pair", "stand", "steps", "many"] f fd) : D__law_times_right_ P w K mg base := by
  refine F.df (fgO F.1 sc__law_times_right (fun pl ds k h => ?_) fun cdv B fr s H E hg hr => ⟨_, ((pss_cons (ps_set (i := 5) sc__law_times_right.nd rfl (.inl rfl) (pe_tup (pa_cons (pe_callD D__law_times hg (hr.mono (by decide)) (by rfl) (pa_cons (pe_ix (r := rIx K) ix_seq (pv 1) pe_int (fun _ _ => rfl)) (pa_cons (pv 4) pa_nil))) (pa_cons (pe_callD D__law_times hg (hr.mono (by decide)) (by rfl) (pa_cons (pe_ix (r := rIx K) ix_seq (pv 1) pe_int (fun _ _ => rfl)) (pa_cons (pv 4) pa_nil))) pa_nil))))
      (pss_cons (ps_set (i := 6) sc__law_times_right.nd rfl (.inl rfl) (pe_tup (pa_cons (pe_op op_mulU (pv 4) (pe_ix (r := rIx K) ix_seq (pv 2) pe_int (fun _ _ => rfl))) (pa_cons (pe_op op_mulU (pv 4) (pe_ix (r := rIx K) ix_seq (pv 2) pe_int (fun _ _ => rfl))) pa_nil))))
      (pss_cons (ps_set (i := 7) sc__law_times_right.nd rfl (.inl rfl) (pe_callD D_moved_state hg (hr.mono (by decide)) (by rfl) (pa_cons (pv 1) (pa_cons (pv 2) (pa_cons (pv 3) pa_nil)))))
      (pss_cons (ps_set (i := 8) sc__law_times_right.nd rfl (.inl rfl) (pe_callD D_moved_state hg (hr.mono (by decide)) (by rfl) (pa_cons (pv 5) (pa_cons (pv 6) (pa_cons (pe_lc (own := [("step", 23)]) rfl sc__law_times_right.nd (pi_list (pv 3)) (blkOk_by (N := ["jar", "pair", "stand", "steps", "many", "other", "place", "here", "there", "laps", "top", "bottom", "again", "size", "arm", "reach_here", "high", "count_here", "one", "some", "first", "last", "two", "step"]) (sc := defScope s__law_times_right) (by decide +kernel)) (fun _ _ _ _ _ => (pg_name (i := 23) sc__law_times_right.nd rfl (Or.inl rfl) (Or.inr rfl))) (fun _ _ _ _ _ => pts_nil) (fun _ _ _ _ _ => (pe_op op_mulU (pv 4) (pv 23)))) pa_nil)))))
      (pss_cons (ps_if (pt_cmpR (r := rNeU K) (op_neU hr.units) (pv 8) (pe_tup (pa_cons (pe_op op_mulU (pv 4) (pe_ix (r := rIx K) ix_seq (pv 7) pe_int (fun _ _ => rfl))) (pa_cons (pe_op op_mulU (pv 4) (pe_ix (r := rIx K) ix_seq (pv 7) pe_int (fun _ _ => rfl))) pa_nil))) (nomark _)) (pss_one (ps_ret pe_bl)) pss_nil)
      (pss_cons (ps_set (i := 9) sc__law_times_right.nd rfl (.inl rfl) (pe_callD D__law_round hg (hr.mono (by decide)) (by rfl) (pa_cons (pv 0) (pa_cons pe_int (pa_cons (pe_op op_powW pe_int pe_int) pa_nil)))))
      (pss_cons (ps_asg (pe_callD D_mean_rise hg (hr.mono (by decide)) (by rfl) (pa_cons (pv 1) (pa_cons (pe_ix (r := rIx K) ix_seq (pv 2) pe_int (fun _ _ => rfl)) (pa_cons (pv 9) pa_nil)))) (pg_tup (n := 2) rfl (pgs_cons (pg_name (i := 10) sc__law_times_right.nd rfl (.inl rfl)) (pgs_cons (pg_name (i := 11) sc__law_times_right.nd rfl (.inl rfl)) pgs_nil))))
      (pss_cons (ps_set (i := 12) sc__law_times_right.nd rfl (.inl rfl) (pe_callD D_mean_rise hg (hr.mono (by decide)) (by rfl) (pa_cons (pv 5) (pa_cons (pe_ix (r := rIx K) ix_seq (pv 6) pe_int (fun _ _ => rfl)) (pa_cons (pe_lc (own := [("step", 23)]) rfl sc__law_times_right.nd (pi_list (pv 9)) (blkOk_by (N := ["jar", "pair", "stand", "steps", "many", "other", "place", "here", "there", "laps", "top", "bottom", "again", "size", "arm", "reach_here", "high", "count_here", "one", "some", "first", "last", "two", "step"]) (sc := defScope s__law_times_right) (by decide +kernel)) (fun _ _ _ _ _ => (pg_name (i := 23) sc__law_times_right.nd rfl (Or.inl rfl) (Or.inr rfl))) (fun _ _ _ _ _ => pts_nil) (fun _ _ _ _ _ => (pe_op op_mulU (pv 4) (pv 23)))) pa_nil)))))
      (pss_cons (ps_if (pt_cmpR (r := rNeU K) (op_neU hr.units) (pe_op op_mulU (pe_ix (r := rIx K) ix_seq (pv 12) pe_int (fun _ _ => rfl)) (pv 11)) (pe_op op_mulU (pe_op op_mulU (pv 4) (pv 10)) (pe_ix (r := rIx K) ix_seq (pv 12) pe_int (fun _ _ => rfl))) (nomark _)) (pss_one (ps_ret pe_bl)) pss_nil)
      (pss_cons (ps_set (i := 13) sc__law_times_right.nd rfl (.inl rfl) (pe_op op_addU pe_int (pe_callD D__law_pick hg (hr.mono (by decide)) (by rfl) (pa_cons (pv 0) (pa_cons pe_int pa_nil)))))
      (pss_cons (ps_asg (pe_callD D_span_rise hg (hr.mono (by decide)) (by rfl) (pa_cons (pv 1) (pa_cons (pe_ix (r := rIx K) ix_seq (pv 2) pe_int (fun _ _ => rfl)) (pa_cons (pv 13) pa_nil)))) (pg_tup (n := 2) rfl (pgs_cons (pg_name (i := 10) sc__law_times_right.nd rfl (.inl rfl)) (pgs_cons (pg_name (i := 11) sc__law_times_right.nd rfl (.inl rfl)) pgs_nil))))
      (pss_cons (ps_set (i := 12) sc__law_times_right.nd rfl (.inl rfl) (pe_callD D_span_rise hg (hr.mono (by decide)) (by rfl) (pa_cons (pv 5) (pa_cons (pe_ix (r := rIx K) ix_seq (pv 6) pe_int (fun _ _ => rfl)) (pa_cons (pe_op op_mulU (pv 4) (pv 13)) pa_nil)))))
      (pss_cons (ps_if (pt_cmpR (r := rNeU K) (op_neU hr.units) (pe_op op_mulU (pe_ix (r := rIx K) ix_seq (pv 12) pe_int (fun _ _ => rfl)) (pv 11)) (pe_op op_mulU (pe_op op_mulU (pv 4) (pv 10)) (pe_ix (r := rIx K) ix_seq (pv 12) pe_int (fun _ _ => rfl))) (nomark _)) (pss_one (ps_ret pe_bl)) pss_nil)
      (pss_cons (ps_par (i := 14) (j := 15) rfl sc__law_times_right.nd rfl rfl (by decide) rfl rfl (pa_cons (pe_callD D__law_pick hg (hr.mono (by decide)) (by rfl) (pa_cons (pv 0) (pa_cons pe_int pa_nil))) (pa_cons (pe_op op_addU pe_int (pe_callD D__law_pick hg (hr.mono (by decide)) (by rfl) (pa_cons (pv 0) (pa_cons pe_int pa_nil)))) pa_nil)) (by rfl))
      (pss_cons (ps_par (i := 16) (j := 17) rfl sc__law_times_right.nd rfl rfl (by decide) rfl rfl (pa_cons (pe_callD D__law_under hg (hr.mono (by decide)) (by rfl) (pa_cons (pe_ix (r := rIx K) ix_seq (pv 1) pe_int (fun _ _ => rfl)) (pa_cons (pe_callD D__law_pick hg (hr.mono (by decide)) (by rfl) (pa_cons (pv 0) (pa_cons pe_int pa_nil))) pa_nil))) (pa_cons (pe_callD D__law_pick hg (hr.mono (by decide)) (by rfl) (pa_cons (pv 0) (pa_cons pe_int pa_nil))) pa_nil)) (by rfl))
      (pss_cons (ps_set (i := 18) sc__law_times_right.nd rfl (.inl rfl) (pe_callD D_best_height hg (hr.mono (by decide)) (by rfl) (pa_cons (pv 1) (pa_cons (pe_tup (pa_cons (pv 16) (pa_cons (pv 14) pa_nil))) (pa_cons (pv 15) (pa_cons (pv 17) pa_nil))))))
      (pss_cons (ps_set (i := 6) sc__law_times_right.nd rfl (.inl rfl) (pe_tup (pa_cons (pe_op op_mulU (pv 4) (pv 16)) (pa_cons (pe_op op_mulU (pv 4) (pv 14)) pa_nil))))
      (pss_cons (ps_if (pt_cmpR op_lt (pe_callD D_best_height hg (hr.mono (by decide)) (by rfl) (pa_cons (pv 5) (pa_cons (pv 6) (pa_cons (pe_op op_mulU (pv 4) (pv 15)) (pa_cons (pv 17) pa_nil))))) (pe_op op_mulU (pv 4) (pv 18)) (nomark _)) (pss_one (ps_ret pe_bl)) pss_nil)
      (pss_cons (ps_set (i := 19) sc__law_times_right.nd rfl (.inl rfl) (pe_callD D_held_heights hg (hr.mono (by decide)) (by rfl) (pa_cons (pv 1) (pa_cons (pv 14) pa_nil))))
      (pss_cons (ps_set (i := 20) sc__law_times_right.nd rfl (.inl rfl) (pe_ix (r := rIx K) ix_seq (pv 19) (pe_callD D__law_pick hg (hr.mono (by decide)) (by rfl) (pa_cons (pv 0) (pa_cons (pe_callB (r := rLenQ K) call_len_seq (by rfl) T.n_len (by decide +kernel) (pa_cons (pv 19) pa_nil)) pa_nil))) (fun _ _ => rfl)))
      (pss_cons (ps_set (i := 21) sc__law_times_right.nd rfl (.inl rfl) (pe_ix (r := rIx K) ix_seq (pv 19) (pe_callD D__law_pick hg (hr.mono (by decide)) (by rfl) (pa_cons (pv 0) (pa_cons (pe_callB (r := rLenQ K) call_len_seq (by rfl) T.n_len (by decide +kernel) (pa_cons (pv 19) pa_nil)) pa_nil))) (fun _ _ => rfl)))
      (pss_cons (ps_if (pt_cmpR op_gt (pe_op op_mulU (pe_callB (call_max2 rfl) (by rfl) T.n_max (by decide +kernel) (pa_cons (pe_ix (r := rIx K) ix_seq (pe_ix (r := rIx K) ix_seq (pv 1) pe_int (fun _ _ => rfl)) pe_int (fun _ _ => rfl)) (pa_cons (pe_ix (r := rIx K) ix_seq (pe_ix (r := rIx K) ix_seq (pv 1) pe_int (fun _ _ => rfl)) pe_int (fun _ _ => rfl)) pa_nil))) (pv 4)) pe_int (nomark _)) (pss_one (ps_ret pe_bl)) pss_nil)
      (pss_cons (ps_set (i := 18) sc__law_times_right.nd rfl (.inl rfl) (pe_callD D_joining_count hg (hr.mono (by decide)) (by rfl) (pa_cons (pv 1) (pa_cons (pv 14) (pa_cons (pv 20) (pa_cons (pv 21) pa_nil))))))
      (pss_cons (ps_set (i := 22) sc__law_times_right.nd rfl (.inl rfl) (pe_callD D_joining_count hg (hr.mono (by decide)) (by rfl) (pa_cons (pv 5) (pa_cons (pe_op op_mulU (pv 4) (pv 14)) (pa_cons (pe_op op_mulU (pv 4) (pv 20)) (pa_cons (pe_op op_mulU (pv 4) (pv 21)) pa_nil))))))
      (pss_one (ps_ret (pe_or (pe_cmpR op_isN (pv 18) pe_non (nomark _)) (pe_one (pe_and (pe_cmpR op_notN (pv 22) pe_non (nomark _)) (pe_one (pe_cmpR op_le (pv 22) (pv 18) (nomark _))))))))))))))))))))))))))))))))), ?_⟩)
  · obtain ⟨a, n, rfl, _⟩ := h; rfl
  · intro c p pl ds k hp h
    obtain ⟨⟨v, s, ms, N⟩, n, rfl, ⟨ok, hs, sb1, sb2, ml, mm, N1, N3, Np1, Np2⟩, hP, hn, h⟩ := h
    have ok' : v.Ok := ok
    have hs' : held v s = true := hs
    have sb1' : s.1.natAbs ≤ 10 ^ 38 := sb1
    have sb2' : s.2.natAbs ≤ 10 ^ 38 := sb2
    have ml' : ms.length ≤ 12 := ml
    have mm' : ∀ m ∈ ms, m ≠ 0 ∧ m.natAbs ≤ 10 ^ 38 := mm
    have nz : ∀ m ∈ ms, m ≠ 0 := fun m hm => (mm' m hm).1
    have N1' : 1 ≤ N := N1
    have N3' : N ≤ 3 := N3
    have M0 : (0 : Int) < (N : Int) := by omega
    have M3 : (N : Int) ≤ 3 := by omega
    have fin : ∀ pl', Pk (n + 300) pl' → k (.bool true) pl' := fun pl' q => h _ _ rfl q
    have o : Tms v (tmC (N : Int) v.1, tmC (N : Int) v.2) (N : Int) := tms_of M0
    have ou : Dv.Ok (tmC (N : Int) v.1, tmC (N : Int) v.2) := ⟨tmC_ok ok'.1 M0 Np1, tmC_ok ok'.2 M0 Np2⟩
    have p1 := ok'.1.p1
    have p24 := ok'.1.p24
    have q1' := ok'.2.p1
    have q24 := ok'.2.p24
    have b300 : 3 * (10 : Int) ^ 42 < 2 ^ 300 := by decide +kernel
    have b400 : 3 * (10 : Int) ^ 60 < 2 ^ 400 := by decide +kernel
    have bS : ∀ {x : Int}, x.natAbs ≤ 10 ^ 42 → CMulW (N : Int) x := fun {x} hx => mulw 20 300 (by omega) (by omega) (by omega) (by omega) (by decide) (by decide) (by decide)
    have hh : held (tmC (N : Int) v.1, tmC (N : Int) v.2) (tm (N : Int) s) = true := by rw [o.held]; exact hs'
    have scale : ∀ {xs : List Int}, (∀ x ∈ xs, x ≠ 0) → ∀ x ∈ xs.map (fun k => (N : Int) * k), x ≠ 0 := fun {xs} hx x hm => by
      obtain ⟨y, hy, rfl⟩ := List.mem_map.mp hm
      exact Int.mul_ne_zero (by omega) (hx y hy)
    walk_at "nz"
    refine ws_seq (ws_set (we_tup (wa_cons (we_det (v.1, (N : Int)) ?_))))
    refine wa_cons (we_op (we_var rfl (we_int (os_t0 (wa_cons (we_var rfl (wa_nil ⟨rfl, ⟨ok'.1, by show (1 : Int) ≤ (N : Int); omega, M3⟩, ?_⟩)))))))
    refine wa_cons (we_det (v.2, (N : Int)) ?_)
    refine wa_cons (we_op (we_var rfl (we_int (os_t1 (wa_cons (we_var rfl (wa_nil ⟨rfl, ⟨ok'.2, by show (1 : Int) ≤ (N : Int); omega, M3⟩, ?_⟩)))))))
    refine wa_nil ⟨by show 2 ≤ sizeLine; decide, ?_⟩
    obtain ⟨u, hu⟩ : ∃ u : Dv, (tmC (N : Int) v.1, tmC (N : Int) v.2) = u := ⟨_, rfl⟩
    have eu : PyData.tuple [(tmC (v.1, (N : Int)).2 (v.1, (N : Int)).1).d, (tmC (v.2, (N : Int)).2 (v.2, (N : Int)).1).d] = u.d := by rw [← hu]
    rw [eu]
    rw [hu] at o ou hh
    have up1 : u.1.p = (N : Int) * v.1.p := by rw [← hu]; rfl
    have up2 : u.2.p = (N : Int) * v.2.p := by rw [← hu]; rfl
    obtain ⟨M, hM⟩ : ∃ M : Int, (N : Int) = M := ⟨_, rfl⟩
    rw [hM] at M0 M3 bS hh scale o
    have bS' := @bS
    rw [hM]
    walk_at "nz"
    refine ws_seq (ws_set (we_tup (wa_cons (we_op (we_var rfl (we_op (we_var rfl (we_int (os_t0 ?_)))))))))
    refine os_mulI (bS (Nat.le_trans sb1' (by decide))) ?_
    refine wa_cons (we_op (we_var rfl (we_op (we_var rfl (we_int (os_t1 ?_))))))
    refine os_mulI (bS (Nat.le_trans sb2' (by decide))) ?_
    refine wa_nil ⟨by show 2 ≤ sizeLine; decide, ?_⟩
    walk_at "nz"
    refine ws_seq (ws_set (we_det (v, s, ms) ?_))
    walk_at "go"
    refine ⟨⟨ok', hs', by show ms.length ≤ 40; omega, nz⟩, ?_⟩
    walk_at "nz"
    refine ws_seq (ws_set (we_det (u, tm M s, ms.map fun k => M * k) ?_))
    refine wa_cons (we_var rfl (wa_cons (we_var rfl (wa_cons ?_))))
    refine we_lcM ms PyData.int (fun t => PyData.int (M * t)) (Nat.lt_of_le_of_lt (show _ ≤ 100 by omega) (by decide)) (no_of rfl _) ?_ ?_
    case refine_2 =>
      intro p' t ht pin
      refine we_op (we_var rfl (we_var rfl ?_))
      exact os_mulI (bS (Nat.le_trans (mm' t ht).2 (by decide))) ⟨rfl, rfl⟩
    refine we_var rfl ⟨rfl, ?_⟩
    refine wa_nil ⟨by rw [List.map_map]; rfl, ⟨ou, hh, by show (ms.map _).length ≤ 40; rw [List.length_map]; omega, scale nz⟩, ?_⟩
    rw [show mvs (u, tm M s, ms.map fun k => M * k).1 (u, tm M s, ms.map fun k => M * k).2.1 (u, tm M s, ms.map fun k => M * k).2.2 = tm M (mvs v s ms) from o.mvs ok' ou ms s]
    have eb : (mvs v s ms).1.natAbs ≤ 10 ^ 42 ∧ (mvs v s ms).2.natAbs ≤ 10 ^ 42 := by
      have q := mvs_bound ok' (M := 10 ^ 38) ms s (fun x hx => (mm' x hx).2)
      have m1 : ms.length * (10 ^ 38 + 48) ≤ 12 * (10 ^ 38 + 48) := Nat.mul_le_mul_right _ ml'
      constructor <;> omega
    show WS _ _ _ _ _
    generalize mvs v s ms = e at eb
    walk_at "nz"
    refine ws_seq (ws_if (wt_B (we_op (we_var rfl (we_tup (wa_cons (we_op (we_var rfl (we_op (we_var rfl (we_int (os_t0 ?_))))))))))))
    refine os_mulI (bS eb.1) ?_
    refine wa_cons (we_op (we_var rfl (we_op (we_var rfl (we_int (os_t1 ?_))))))
    refine os_mulI (bS eb.2) ?_
    refine wa_nil ⟨by show 2 ≤ sizeLine; decide, ?_⟩
    refine os_neUD rfl rfl ?_
    rw [eqv_two, decide_eq_true rfl]
    walk_at "nz"
    refine iteN rfl ?_
    refine ws_next ?_
    walk_at "nz"
    have k30 : (10 : Int) ^ (30 : Int).toNat = 10 ^ 30 := by decide +kernel
    refine ws_seq (ws_set (we_poolE rfl hp ?_))
    refine wa_cons (we_int (wa_cons (we_op (we_int (we_int (os_pow (poww (by decide) (by decide) (by decide +kernel) (by decide +kernel)) ?_))))))
    rw [k30]
    refine wa_nil ⟨(3, 10 ^ 30), rfl, ⟨by show (1 : Int) ≤ 3; decide, by show (3 : Int) ≤ 39; decide, by show (1 : Int) ≤ 10 ^ 30; decide +kernel, by show (10 : Int) ^ 30 ≤ 10 ^ 38; decide +kernel⟩, n, hP, by omega, fun d4 pl4 q4 hP4 => ?_⟩
    obtain ⟨ls, rfl, ls0, lsum, ll, lm⟩ := q4
    have ll' : (ls.length : Int) ≤ 3 + 2 := ll
    have lnz : ∀ m ∈ ls, m ≠ 0 := fun m hm => (lm m hm).1
    have ls0' : ls.sum = 0 := lsum
    have hP4' : Pk (n + 200) pl4 := hP4
    walk_at "nz"
    refine ws_seq (ws_unpN rfl ?_)
    refine we_rel (v, s.2, ls) ?_
    refine wa_cons (we_var rfl (wa_cons (we_op (we_var rfl (we_int (os_t1 (wa_cons (we_var rfl (wa_nil ⟨rfl, ⟨ok', by show ls.length ≤ 40; omega, lnz, ls0, ls0'⟩, fun d q => ?_⟩)))))))))
    obtain ⟨t1, c1, mn1, rfl⟩ := q
    have mn1' : Mean v ls s.2 t1 c1 := mn1
    refine ⟨_, _, rfl, ?_⟩
    have sumM : ∀ xs : List Int, (xs.map fun k => M * k).sum = M * xs.sum := fun xs => by
      induction xs with
      | nil => exact (Int.mul_zero _).symm
      | cons x r ih => rw [List.map_cons, List.sum_cons, List.sum_cons, ih, Int.mul_add]
    walk_at "nz"
    refine ws_seq (ws_set (we_rel (u, M * s.2, ls.map fun k => M * k) ?_))
    refine wa_cons (we_var rfl (wa_cons (we_op (we_var rfl (we_int (os_t1 (wa_cons ?_)))))))
    refine we_lcM ls PyData.int (fun t => PyData.int (M * t)) (Nat.lt_of_le_of_lt (show _ ≤ 100 by omega) (by decide)) (no_of rfl _) ?_ ?_
    case refine_2 =>
      intro p' t ht pin
      refine we_op (we_var rfl (we_var rfl ?_))
      exact os_mulI (bS (Nat.le_trans (lm t ht).2 (by decide))) ⟨rfl, rfl⟩
    refine we_var rfl ⟨rfl, ?_⟩
    refine wa_nil ⟨by rw [List.map_map]; rfl, ⟨ou, by show (ls.map _).length ≤ 40; rw [List.length_map]; omega, scale lnz, fun z => ls0 (List.map_eq_nil_iff.mp z), by show (ls.map _).sum = 0; rw [sumM, ls0', Int.mul_zero]⟩, fun d q => ?_⟩
    obtain ⟨t2, c2, mn2, rfl⟩ := q
    have mn2' : Mean u (ls.map fun k => M * k) (M * s.2) t2 c2 := mn2
    have me := o.mean ok' ou ls0' mn1' mn2'
    have tb1 := mean_bound2 ok' mn1' (fun m hm => Nat.le_trans (lm m hm).2 (by decide)) (by omega)
    have tb2 := mean_bound2 ou mn2' (fun m hm => by
      obtain ⟨y, hy, rfl⟩ := List.mem_map.mp hm
      have y1 := (lm y hy).2
      rw [Int.natAbs_mul]
      have : M.natAbs ≤ 3 := by omega
      exact Nat.le_trans (Nat.mul_le_mul this y1) (by decide)) (by rw [List.length_map]; omega)
    have t10 := mn1'.t0
    have t20 := mn2'.t0
    have c10 := mn1'.b0
    have c15 := mn1'.b5
    have c20 := mn2'.b0
    have c25 := mn2'.b5
    have m1a : 0 ≤ M * t1 := Int.mul_nonneg (by omega) t10
    have m1b : M * t1 ≤ 3 * 10 ^ 60 := Int.mul_le_mul M3 tb1 t10 (by omega)
    walk_at "nz"
    refine ws_seq (ws_if (wt_B (we_op (we_op (we_op (we_var rfl (we_int (os_t0 (we_var rfl ?_)))))))))
    refine os_mulI (mulw 400 20 (by omega) (by omega) (by omega) (by omega) (by decide) (by decide) (by decide)) ?_
    refine we_op (we_op (we_var rfl (we_var rfl ?_)))
    refine os_mulI (mulw 20 400 (by omega) (by omega) (by omega) (by omega) (by decide) (by decide) (by decide)) ?_
    refine we_op (we_var rfl (we_int (os_t1 ?_)))
    refine os_mulI (mulw 400 20 (by omega) (by omega) (by omega) (by omega) (by decide) (by decide) (by decide)) ?_
    rw [me]
    refine os_neI ?_
    rw [decide_eq_true rfl]
    walk_at "nz"
    refine iteN rfl ?_
    refine ws_next ?_
    walk_at "nz"
    refine ws_seq (ws_set (we_op (we_int ?_)))
    refine we_draw 40 (n + 200) rfl hp ?_
    walk_at "go"
    refine ⟨hP4', by omega, fun v5 pl5 v50 v51 hP5 => ?_⟩
    refine os_addI ?_
    obtain ⟨z, hz⟩ : ∃ z : Int, 1 + v5 = z := ⟨_, rfl⟩
    have z1 : 1 ≤ z := by omega
    have z4 : z ≤ 40 := by omega
    rw [hz]
    walk_at "nz"
    refine ws_seq (ws_unpN rfl ?_)
    refine we_rel (v, s.2, z) ?_
    refine wa_cons (we_var rfl (wa_cons (we_op (we_var rfl (we_int (os_t1 (wa_cons (we_var rfl (wa_nil ⟨rfl, ⟨ok', z1⟩, fun d q => ?_⟩)))))))))
    obtain ⟨t3, c3, mn3, rfl⟩ := q
    have mn3' : Mean v [z, -z] s.2 t3 c3 := mn3
    refine ⟨_, _, rfl, ?_⟩
    walk_at "nz"
    have mz1 : 1 ≤ M * z := by have := Int.mul_pos M0 (show 0 < z by omega); omega
    have mz2 : M * z ≤ 3 * 40 := Int.mul_le_mul M3 z4 (by omega) (by omega)
    refine ws_seq (ws_set (we_rel (u, M * s.2, M * z) ?_))
    refine wa_cons (we_var rfl (wa_cons (we_op (we_var rfl (we_int (os_t1 (wa_cons (we_op (we_var rfl (we_var rfl ?_))))))))))
    refine os_mulI (bS (Nat.le_trans (show z.natAbs ≤ 100 by omega) (by decide))) ?_
    refine wa_nil ⟨rfl, ⟨ou, mz1⟩, fun d q => ?_⟩
    obtain ⟨t4, c4, mn4, rfl⟩ := q
    have mn4' : Mean u ([z, -z].map fun k => M * k) (M * s.2) t4 c4 := by rw [← span_tm]; exact mn4
    have me2 := o.mean ok' ou (show ([z, -z] : List Int).sum = 0 by show z + (-z + 0) = 0; omega) mn3' mn4'
    have tb3 := (mn3'.le_span ok' (show 0 < z by omega)).1
    have tb4 := ((show Mean u [M * z, -(M * z)] (M * s.2) t4 c4 by rw [span_tm]; exact mn4').le_span ou (show 0 < M * z by omega)).1
    have c30 := mn3'.b0
    have c35 := mn3'.b5
    have c40 := mn4'.b0
    have c45 := mn4'.b5
    have t30 := mn3'.t0
    have t40 := mn4'.t0
    have y1 : z * c3 ≤ 40 * 576 := Int.mul_le_mul z4 c35 (by omega) (by omega)
    have y2 : M * z * c4 ≤ 120 * 576 := Int.mul_le_mul (by omega) c45 (by omega) (by omega)
    have m3a : 0 ≤ M * t3 := Int.mul_nonneg (by omega) t30
    have m3b : M * t3 ≤ 3 * 100000 := Int.mul_le_mul M3 (by omega) t30 (by omega)
    walk_at "nz"
    refine ws_seq (ws_if (wt_B (we_op (we_op (we_op (we_var rfl (we_int (os_t0 (we_var rfl ?_)))))))))
    refine os_mulI (mulw 400 20 (by omega) (by omega) (by omega) (by omega) (by decide) (by decide) (by decide)) ?_
    refine we_op (we_op (we_var rfl (we_var rfl ?_)))
    refine os_mulI (mulw 20 400 (by omega) (by omega) (by omega) (by omega) (by decide) (by decide) (by decide)) ?_
    refine we_op (we_var rfl (we_int (os_t1 ?_)))
    refine os_mulI (mulw 400 20 (by omega) (by omega) (by omega) (by omega) (by decide) (by decide) (by decide)) ?_
    rw [me2]
    refine os_neI ?_
    rw [decide_eq_true rfl]
    walk_at "nz"
    refine iteN rfl ?_
    refine ws_next ?_
    walk_at "nz"
    have oN : Tms v u (N : Int) := by rw [hM]; exact o
    refine ws_seq (ws_par (wa_cons ?_))
    refine we_draw 4 (n + 201) rfl hp ?_
    walk_at "go"
    refine ⟨hP5, by omega, fun w1 pl6 w10 w11 hP6 => ?_⟩
    refine wa_cons (we_op (we_int ?_))
    refine we_draw 4 (n + 202) rfl hp ?_
    walk_at "go"
    refine ⟨hP6, by omega, fun w2 pl7 w20 w21 hP7 => ?_⟩
    refine os_addI ?_
    refine wa_nil ⟨_, _, rfl, ?_⟩
    obtain ⟨a, ha⟩ : ∃ a : Nat, w1 = (a : Int) := ⟨w1.toNat, by omega⟩
    obtain ⟨R, hR⟩ : ∃ R : Nat, 4 + w2 = (R : Int) := ⟨(4 + w2).toNat, by omega⟩
    have a3 : a ≤ 3 := by omega
    have R4 : 4 ≤ R := by omega
    have R7 : R ≤ 7 := by omega
    subst ha
    rw [hR]
    walk_at "nz"
    refine ws_seq (ws_par (wa_cons ?_))
    refine we_detE ?_
    refine wa_cons (we_op (we_var rfl (we_int (os_t0 ?_))))
    refine wa_cons ?_
    refine we_draw 40 (n + 203) rfl hp ?_
    walk_at "go"
    refine ⟨hP7, by omega, fun w3 pl8 w30 w31 hP8 => ?_⟩
    refine wa_nil ⟨(v.1, w3), rfl, ok'.1, ?_⟩
    refine wa_cons ?_
    refine we_draw 5 (n + 204) rfl hp ?_
    walk_at "go"
    refine ⟨hP8, by omega, fun w4 pl9 w40 w41 hP9 => ?_⟩
    refine wa_nil ⟨_, _, rfl, ?_⟩
    obtain ⟨C, hC⟩ : ∃ C : Nat, w4 = (C : Int) := ⟨w4.toNat, by omega⟩
    have C4 : C ≤ 4 := by omega
    subst hC
    rw [show flo (v.1, w3).1 (v.1, w3).2 = flo v.1 w3 from rfl]
    have cat := (flo_spec ok'.1 w3).2.1
    have f1 := flo_le ok'.1 w3
    have f2 := slk_lt ok'.1 w3
    unfold slk at f2
    generalize flo v.1 w3 = H at cat f1 f2
    have Hb : H.natAbs ≤ 100 := by omega
    have hH : held v (H, (a : Int)) = true := by
      unfold held
      rw [show caught v.1 (H, (a : Int)).1 = true from cat, Bool.true_or]
    walk_at "nz"
    refine ws_seq (ws_set (we_rel (v, ((H, (a : Int)) : Sv), R, C) ?_))
    refine wa_cons (we_var rfl (wa_cons (we_tup (wa_cons (we_var rfl (wa_cons (we_var rfl (wa_nil ⟨by show 2 ≤ sizeLine; decide, ?_⟩))))))))
    refine wa_cons (we_var rfl (wa_cons (we_var rfl (wa_nil ⟨rfl, ⟨ok', hH, by show 1 ≤ R; omega, by show R ≤ 24; omega, by show C ≤ 200; omega, by show (0 : Int) ≤ (a : Int); omega, by show (a : Int) ≤ (R : Int); omega⟩, fun d q => ?_⟩))))
    obtain ⟨m1, rfl, b1, b2⟩ := q
    have b1' : m1 ∈ (itT v (startT R a H) C).filterMap id := by
      have e : ((H, (a : Int)) : Sv).2.toNat = a := Int.toNat_natCast a
      have b3 : m1 ∈ (itT v (startT R ((H, (a : Int)) : Sv).2.toNat H) C).filterMap id := b1
      rw [e] at b3
      exact b3
    have m1b := best_near ok' (show R ≤ 24 by omega) (show a ≤ R by omega) b1'
    walk_at "nz"
    refine ws_seq (ws_set (we_tup (wa_cons (we_op (we_var rfl (we_var rfl ?_))))))
    refine os_mulI (bS (Nat.le_trans Hb (by decide))) ?_
    refine wa_cons (we_op (we_var rfl (we_var rfl ?_)))
    refine os_mulI (bS (Nat.le_trans (show ((a : Nat) : Int).natAbs ≤ 100 by omega) (by decide))) ?_
    refine wa_nil ⟨by show 2 ≤ sizeLine; decide, ?_⟩
    have eR : M * (R : Int) = ((N * R : Nat) : Int) := by rw [Int.natCast_mul, hM]
    have eA : M * (a : Int) = ((N * a : Nat) : Int) := by rw [Int.natCast_mul, hM]
    have hH2 : held u (tm M (H, (a : Int))) = true := by rw [o.held]; exact hH
    have NR : N * R ≤ 24 := Nat.le_trans (Nat.mul_le_mul N3' R7) (by decide)
    have NA : N * a ≤ N * R := Nat.mul_le_mul_left N (by omega)
    have NR1 : 1 ≤ N * R := Nat.le_trans (by decide) (Nat.mul_le_mul N1' R4)
    walk_at "nz"
    refine ws_seq (ws_if (wt_B (we_op (we_rel (u, tm M (H, (a : Int)), N * R, C) ?_))))
    refine wa_cons (we_var rfl (wa_cons (we_var rfl (wa_cons (we_op (we_var rfl (we_var rfl ?_)))))))
    refine os_mulI (bS (Nat.le_trans (show ((R : Nat) : Int).natAbs ≤ 100 by omega) (by decide))) ?_
    refine wa_cons (we_var rfl (wa_nil ⟨by rw [eR], ⟨ou, hH2, NR1, NR, by show C ≤ 200; omega, by show (0 : Int) ≤ M * (a : Int); rw [eA]; omega, by show M * (a : Int) ≤ ((N * R : Nat) : Int); rw [eA]; omega⟩, fun d q => ?_⟩))
    obtain ⟨m2, rfl, b4, b5⟩ := q
    have b5' : ∀ y ∈ (itT u (startT (N * R) (N * a) ((N : Int) * H)) C).filterMap id, y ≤ m2 := fun y hy => by
      refine b5 y ?_
      show y ∈ (itT u (startT (N * R) (M * (a : Int)).toNat (M * H)) C).filterMap id
      rw [eA, Int.toNat_natCast, ← hM]
      exact hy
    have bst := oN.best ok' ou (show a ≤ R by omega) b1' b5'
    rw [hM] at bst
    refine we_op (we_var rfl (we_var rfl ?_))
    refine os_mulI (bS (Nat.le_trans (show m1.natAbs ≤ 1000 by omega) (by decide))) ?_
    refine os_lt ?_
    rw [decide_eq_false (show ¬ m2 < M * m1 by omega)]
    walk_at "nz"
    refine iteN rfl ?_
    refine ws_next ?_
    walk_at "nz"
    refine ws_seq (ws_set (we_det (v, (a : Int)) ?_))
    walk_at "go"
    refine ⟨ok', ?_⟩
    obtain ⟨hs2, hhs⟩ : ∃ xs, heldL v (a : Int) = xs := ⟨_, rfl⟩
    rw [show heldL (v, (a : Int)).1 (v, (a : Int)).2 = hs2 from hhs]
    have hne : hs2 ≠ [] := by rw [← hhs]; exact heldL_ne ok' _
    have hin : ∀ x ∈ hs2, held v (x, (a : Int)) = true ∧ 0 ≤ x ∧ x < 576 := fun x hx => by
      rw [← hhs] at hx
      obtain ⟨x0, x1, x2⟩ := heldN_mem.mp hx
      obtain ⟨cm, _⟩ := com_lcmV ok'
      have := cm.le
      exact ⟨x2, x0, by omega⟩
    have hlen : hs2.length ≤ 576 := by
      obtain ⟨cm, _⟩ := com_lcmV ok'
      have h1 := cm.le
      have h2 : hs2.length ≤ (lcmV v).toNat := by rw [← hhs]; exact heldN_len v (a : Int) (lcmV v).toNat
      omega
    have hpos : 0 < hs2.length := List.length_pos_iff.mpr hne
    obtain ⟨lm2, hlm⟩ : ∃ q : Int, ((hs2.map PyData.int).length : Int) = q := ⟨_, rfl⟩
    have hlm2 : (hs2.length : Int) = lm2 := by rw [← hlm, List.length_map]
    have b200 : (577 : Int) < 2 ^ 200 := by decide +kernel
    walk_at "nz"
    refine ws_seq (ws_set (we_op (we_var rfl ?_)))
    refine we_draw lm2 (n + 205) rfl hp ?_
    refine wa_cons (we_cb (wa_cons (we_var rfl (wa_nil (cb_lenL ?_)))))
    refine wa_nil ⟨by rw [hlm], ⟨by omega, by omega⟩, hP9, by omega, fun w5 pl10 w50 w51 hP10 => ?_⟩
    refine os_pick (fun x => ∃ y, x = .int y ∧ y ∈ hs2) w50 (by rw [hlm]; exact w51) (fun x hx => ?_) ?_
    · obtain ⟨y, hy, rfl⟩ := List.mem_map.mp hx
      exact ⟨y, rfl, hy⟩
    rintro _ ⟨fi, rfl, hfi⟩
    walk_at "nz"
    refine ws_seq (ws_set (we_op (we_var rfl ?_)))
    refine we_draw lm2 (n + 206) rfl hp ?_
    refine wa_cons (we_cb (wa_cons (we_var rfl (wa_nil (cb_lenL ?_)))))
    refine wa_nil ⟨by rw [hlm], ⟨by omega, by omega⟩, hP10, by omega, fun w6 pl11 w60 w61 hP11 => ?_⟩
    refine os_pick (fun x => ∃ y, x = .int y ∧ y ∈ hs2) w60 (by rw [hlm]; exact w61) (fun x hx => ?_) ?_
    · obtain ⟨y, hy, rfl⟩ := List.mem_map.mp hx
      exact ⟨y, rfl, hy⟩
    rintro _ ⟨la, rfl, hla⟩
    have fih := hin fi hfi
    have lah := hin la hla
    have hPe : Pk (n + 300) pl11 := hP11.up (by omega)
    walk_at "nz"
    refine ws_seq (ws_if (wt_B (we_op (we_op ?_))))
    walk_at "go"
    refine os_mulI (mulw 20 20 (by omega) (by omega) (by omega) (by omega) (by decide) (by decide) (by decide)) ?_
    walk_at "go"
    refine ite2 (fun hb => ?_) (fun hb => ?_)
    · exact ws_ret (we_bl (fin _ hPe))
    have mx : max v.1.p v.2.p * M ≤ 8 := by
      have : ¬ (8 : Int) < max v.1.p v.2.p * M := fun z => hb (decide_eq_true z)
      omega
    have mx1 : max v.1.p v.2.p * 1 ≤ max v.1.p v.2.p * M := Int.mul_le_mul_of_nonneg_left (by omega) (by omega)
    have ux1 : u.1.p ≤ 8 := by
      rw [up1, hM]
      have := Int.mul_le_mul_of_nonneg_left (show v.1.p ≤ max v.1.p v.2.p by omega) (show 0 ≤ M by omega)
      rw [Int.mul_comm M (max v.1.p v.2.p)] at this
      omega
    have ux2 : u.2.p ≤ 8 := by
      rw [up2, hM]
      have := Int.mul_le_mul_of_nonneg_left (show v.2.p ≤ max v.1.p v.2.p by omega) (show 0 ≤ M by omega)
      rw [Int.mul_comm M (max v.1.p v.2.p)] at this
      omega
    refine ws_next ?_
    walk_at "nz"
    refine ws_seq (ws_set (we_rel (v, (a : Int), fi, la) ?_))
    walk_at "go"
    refine ⟨⟨⟨ok', by show v.1.p ≤ 8; omega, by show v.2.p ≤ 8; omega⟩, fih.1, lah.1⟩, fun d q => ?_⟩
    obtain ⟨x1, j1, rfl⟩ := q
    walk_at "nz"
    refine ws_seq (ws_set (we_rel (u, M * (a : Int), M * fi, M * la) ?_))
    refine wa_cons (we_var rfl (wa_cons (we_op (we_var rfl (we_var rfl ?_)))))
    refine os_mulI (bS (Nat.le_trans (show ((a : Nat) : Int).natAbs ≤ 100 by omega) (by decide))) ?_
    refine wa_cons (we_op (we_var rfl (we_var rfl ?_)))
    refine os_mulI (bS (Nat.le_trans (show fi.natAbs ≤ 576 by omega) (by decide))) ?_
    refine wa_cons (we_op (we_var rfl (we_var rfl ?_)))
    refine os_mulI (bS (Nat.le_trans (show la.natAbs ≤ 576 by omega) (by decide))) ?_
    refine wa_nil ⟨rfl, ⟨⟨ou, ux1, ux2⟩, by show held u (tm M (fi, (a : Int))) = true; rw [o.held]; exact fih.1, by show held u (tm M (la, (a : Int))) = true; rw [o.held]; exact lah.1⟩, fun d q => ?_⟩
    obtain ⟨x2, j2, rfl⟩ := q
    have j1' : JoinM v (min fi la, (a : Int)) ((la - fi).natAbs : Int) x1 := j1
    have j2' : JoinM u (tm M (min fi la, (a : Int))) (M * ((la - fi).natAbs : Int)) x2 := by
      have j3 : JoinM u (min (M * fi) (M * la), M * (a : Int)) ((M * la - M * fi).natAbs : Int) x2 := j2
      rw [min_tm M0, gap_tm M0] at j3
      exact j3
    have jj := o.join ok' ou j1' j2'
    walk_at "nz"
    refine ws_ret (we_orV (we_op (we_var rfl (we_non (os_isN ?_)))))
    rcases jj with rfl | ⟨m1s, m2s, rfl, rfl, le⟩
    · refine iteV rfl ?_
      exact fin _ hPe
    · refine iteN rfl ?_
      refine we_andV (we_op (we_var rfl (we_non (os_notN ?_))))
      refine iteV rfl ?_
      refine we_op (we_var rfl (we_var rfl (os_le ?_)))
      rw [decide_eq_true (show ((m2s.length : Nat) : Int) ≤ ((m1s.length : Nat) : Int) by omega)]
      exact fin _ hPe

theorem ok_law (T : Tx K mg) (D__law_jar : D__law_jar_ P w K mg base) (D__law_pair : D__law_pair_ P w K mg base) (D__law_pick : D__law_pick_ P w K mg base) (D__law_shift_right : D__law_shift_right_ P w K mg base) (D__law_stand : D__law_stand_ P w K mg base) (D__law_steps : D__law_steps_ P w K mg base) (D__law_times_right : D__law_times_right_ P w K mg base) {f : Addr} {fd : FuncData} (F : Here K mg "law" s_law ["script"] f fd) : FG P w K mg base (10 + 1) f fd ["script"] (spLaw K) := by
  refine fgLaw F.1 sc_law rfl fun cdv B fr s H E hg hr => ⟨_, ((pss_cons (ps_for PassesOwn.never rfl (pi_range1 (by rfl) T.n_range (pa_cons (pe_callB (call_max2 rfl) (by rfl) T.n_max (by decide +kernel) (pa_cons pe_int (pa_cons (pe_callB (call_min2 rfl) (by rfl) T.n_min (by decide +kernel) (pa_cons pe_int (pa_cons (pe_callB (r := rLenQ K) call_len_seq (by rfl) T.n_len (by decide +kernel) (pa_cons (pv 0) pa_nil)) pa_nil))) pa_nil))) pa_nil)) (pg_name (i := 1) sc_law.nd rfl (.inl rfl)) (pss_cons (ps_set (i := 2) sc_law.nd rfl (.inl rfl) (pe_callD D__law_jar hg (hr.mono (by decide)) (by rfl) (pa_cons (pv 0) (pa_cons (pv 1) pa_nil))))
      (pss_one (ps_for PassesOwn.never rfl (pi_range1 (by rfl) T.n_range (pa_cons pe_int pa_nil)) (pg_name (i := 3) sc_law.nd rfl (.inl rfl)) (pss_cons (ps_set (i := 4) sc_law.nd rfl (.inl rfl) (pe_callD D__law_pair hg (hr.mono (by decide)) (by rfl) (pa_cons (pv 2) (pa_cons (pe_ix (r := rIx K) ix_seq (pe_lst (pa_cons pe_int (pa_cons pe_int (pa_cons pe_int pa_nil)))) (pv 3) (fun _ _ => rfl)) pa_nil))))
      (pss_cons (ps_set (i := 5) sc_law.nd rfl (.inl rfl) (pe_callD D__law_stand hg (hr.mono (by decide)) (by rfl) (pa_cons (pv 2) (pa_cons (pv 4) (pa_cons (pe_ix (r := rIx K) ix_seq (pe_lst (pa_cons pe_int (pa_cons (pe_op op_powW pe_int pe_int) pa_nil))) (pe_callD D__law_pick hg (hr.mono (by decide)) (by rfl) (pa_cons (pv 2) (pa_cons pe_int pa_nil))) (fun _ _ => rfl)) pa_nil)))))
      (pss_cons (ps_set (i := 6) sc_law.nd rfl (.inl rfl) (pe_callD D__law_steps hg (hr.mono (by decide)) (by rfl) (pa_cons (pv 2) (pa_cons pe_int (pa_cons (pe_ix (r := rIx K) ix_seq (pe_lst (pa_cons pe_int (pa_cons (pe_op op_powW pe_int pe_int) pa_nil))) (pe_callD D__law_pick hg (hr.mono (by decide)) (by rfl) (pa_cons (pv 2) (pa_cons pe_int pa_nil))) (fun _ _ => rfl)) pa_nil)))))
      (pss_cons (ps_if (pt_not (pt_val (pe_callD D__law_shift_right hg (hr.mono (by decide)) (by rfl) (pa_cons (pv 2) (pa_cons (pv 4) (pa_cons (pv 5) (pa_cons (pv 6) pa_nil))))))) (pss_one (ps_ret pe_bl)) pss_nil)
      (pss_one (ps_if (pt_cmpR op_gt (pv 3) pe_int (nomark _)) (pss_cons (ps_set (i := 7) sc_law.nd rfl (.inl rfl) (pe_ix (r := rIx K) ix_seq (pe_lst (pa_cons pe_int (pa_cons pe_int pa_nil))) (pe_op op_sub (pv 3) pe_int) (fun _ _ => rfl)))
      (pss_one (ps_if (pt_not (pt_val (pe_callD D__law_times_right hg (hr.mono (by decide)) (by rfl) (pa_cons (pv 2) (pa_cons (pv 4) (pa_cons (pv 5) (pa_cons (pv 6) (pa_cons (pv 7) pa_nil)))))))) (pss_one (ps_ret pe_bl)) pss_nil))) pss_nil))))))))))
      (pss_one (ps_ret pe_bl)))), ?_⟩
  intro c a ns hc hS hl
  have e35 : (10 : Int) ^ (35 : Int).toNat = 10 ^ 35 := by decide +kernel
  have e34 : (10 : Int) ^ (34 : Int).toNat = 10 ^ 34 := by decide +kernel
  walk_at "nz"
  refine ws_seq ?_
  refine ws_forR1 (fun i ds' pl' => ∃ b1 b2 b3 b4 b5 b6 b7, ds' = [some (.v (.ref a)), b1, b2, b3, b4, b5, b6, b7] ∧ pl' = []) (max 1 (min 4 ns.length)) ?_ ?_ ?_
  · walk_at "go"
    exact ⟨_, rfl, by omega, by omega, by omega, _, _, _, _, _, _, _, rfl, rfl⟩
  · rintro i ds' pl' hi ⟨b1, b2, b3, b4, b5, b6, b7, rfl, rfl⟩
    walk_at "nz"
    refine ws_mkpool hc hS rfl _ i (we_var rfl ⟨rfl, rfl⟩) (fun k k' ⟨i0, i1, h⟩ g => ⟨i0, i1, fun pl q => g _ (h pl q)⟩) ⟨by omega, by omega, fun pl hP p => ?_⟩
    obtain ⟨i9, hi9⟩ : ∃ y : Int, (i : Int) = y := ⟨_, rfl⟩
    rw [hi9]
    walk_at "nz"
    refine ws_forR1 (fun j ds' pl' => ∃ b3 b4 b5 b6 b7, ds' = [some (.v (.ref a)), some (.d (.int i9)), some (.v (.ref p)), b3, b4, b5, b6, b7] ∧ Pk (2000 * j) pl') 3 ?_ ?_ ?_
    · walk_at "go"
      exact ⟨_, rfl, by decide, by decide, by decide, _, _, _, _, _, rfl, hP⟩
    · rintro j ds' pl' hj ⟨b3, b4, b5, b6, b7, rfl, hPj⟩
      obtain ⟨most, N, hmost, m0, m1, hmany⟩ := laps3 hj
      obtain ⟨j9, hj9⟩ : ∃ y : Int, (j : Int) = y := ⟨_, rfl⟩
      rw [hj9] at hmost hmany ⊢
      walk_at "nz"
      refine ws_seq (ws_set (we_poolE rfl rfl ?_))
      refine wa_cons (we_op (we_lst (wa_cons (we_int (wa_cons (we_int (wa_cons (we_int (wa_nil ⟨by show 3 ≤ sizeLine; decide, ?_⟩)))))))))
      refine we_var rfl (os_ix hmost ?_)
      refine wa_nil ⟨most, rfl, ⟨m0, m1⟩, 2000 * j, hPj, by omega, fun d1 pl2 q1 hP2 => ?_⟩
      obtain ⟨v, rfl, ok, vp1, vp2⟩ := q1
      have ok' : v.Ok := ok
      have vp1 : v.1.p ≤ most := vp1
      have vp2 : v.2.p ≤ most := vp2
      have hP2' : Pk (2000 * j + 300) pl2 := hP2
      walk_at "nz"
      refine ws_seq (ws_set (we_poolE rfl rfl ?_))
      refine wa_cons (we_var rfl (wa_cons (we_op (we_lst (wa_cons (we_int (wa_cons (we_op (we_int (we_int ?_))))))))))
      refine os_pow (poww (by decide) (by decide) (by decide +kernel) (by decide +kernel)) ?_
      rw [e35]
      refine wa_nil ⟨by show 2 ≤ sizeLine; decide, ?_⟩
      refine we_draw 2 (2000 * j + 300) rfl rfl ?_
      walk_at "go"
      refine ⟨hP2', by omega, fun v2 pl3 v20 v21 hP3 => ?_⟩
      refine os_pick (fun x => ∃ z : Int, x = .int z ∧ 1 ≤ z ∧ z ≤ 10 ^ 37) v20 v21 ?_ ?_
      · intro x hx
        simp only [List.mem_cons, List.not_mem_nil, or_false] at hx
        rcases hx with rfl | rfl
        · exact ⟨_, rfl, by decide, by decide +kernel⟩
        · exact ⟨_, rfl, by decide +kernel, by decide +kernel⟩
      rintro _ ⟨far, rfl, f0, f1⟩
      refine wa_nil ⟨(v, far), rfl, ⟨ok', f0, f1⟩, 2000 * j + 301, hP3, by omega, fun d3 pl4 q3 hP4 => ?_⟩
      obtain ⟨s, rfl, hs, sb1, sb2⟩ := q3
      have hP4' : Pk (2000 * j + 304) pl4 := hP4
      walk_at "nz"
      refine ws_seq (ws_set (we_poolE rfl rfl ?_))
      refine wa_cons (we_int (wa_cons (we_op (we_lst (wa_cons (we_int (wa_cons (we_op (we_int (we_int ?_))))))))))
      refine os_pow (poww (by decide) (by decide) (by decide +kernel) (by decide +kernel)) ?_
      rw [e34]
      refine wa_nil ⟨by show 2 ≤ sizeLine; decide, ?_⟩
      refine we_draw 2 (2000 * j + 304) rfl rfl ?_
      walk_at "go"
      refine ⟨hP4', by omega, fun v3 pl5 v30 v31 hP5 => ?_⟩
      refine os_pick (fun x => ∃ z : Int, x = .int z ∧ 1 ≤ z ∧ z ≤ 10 ^ 37) v30 v31 ?_ ?_
      · intro x hx
        simp only [List.mem_cons, List.not_mem_nil, or_false] at hx
        rcases hx with rfl | rfl
        · exact ⟨_, rfl, by decide, by decide +kernel⟩
        · exact ⟨_, rfl, by decide +kernel, by decide +kernel⟩
      rintro _ ⟨far2, rfl, f2, f3⟩
      refine wa_nil ⟨(12, far2), rfl, ⟨by show (1 : Int) ≤ 12; decide, by show (12 : Int) ≤ 40; decide, f2, f3⟩, 2000 * j + 305, hP5, by omega, fun d4 pl6 q4 hP6 => ?_⟩
      obtain ⟨ms, rfl, ml, mm⟩ := q4
      have ml' : (ms.length : Int) ≤ 12 := ml
      have hP6' : Pk (2000 * j + 505) pl6 := hP6
      walk_at "nz"
      refine ws_seq (ws_if (wt_not (wt_T ?_)))
      refine we_pool (v, s, ms) rfl rfl ?_
      walk_at "go"
      refine ⟨⟨ok', hs, sb1, sb2, by show ms.length ≤ 12; omega, mm⟩, 2000 * j + 505, hP6', by omega, fun d6 pl7 q6 hP7 => ?_⟩
      have q6' : d6 = .bool true := q6
      subst q6'
      have hP7' : Pk (2000 * j + 805) pl7 := hP7
      walk_at "nz"
      refine iteN rfl ?_
      refine ws_next ?_
      walk_at "nz"
      refine ws_if (wt_B (we_op (we_var rfl (we_int (os_gt ?_)))))
      walk_at "nz"
      refine ite2 (fun hb => ?_) (fun hb => ?_)
      · obtain ⟨hmy, n1, n3, nm⟩ := hmany (of_decide_eq_true hb)
        have l1 : (N : Int) * v.1.p ≤ 24 := Int.le_trans (Int.mul_le_mul_of_nonneg_left vp1 (by omega)) nm
        have l2 : (N : Int) * v.2.p ≤ 24 := Int.le_trans (Int.mul_le_mul_of_nonneg_left vp2 (by omega)) nm
        refine ws_seq (ws_set (we_op (we_lst (wa_cons (we_int (wa_cons (we_int (wa_nil ⟨by show 2 ≤ sizeLine; decide, ?_⟩))))))))
        refine we_op (we_var rfl (we_int (os_sub (os_ix hmy ?_))))
        walk_at "nz"
        refine ws_if (wt_not (wt_T ?_))
        refine we_pool (v, s, ms, N) rfl rfl ?_
        walk_at "go"
        refine ⟨⟨ok', hs, sb1, sb2, by show ms.length ≤ 12; omega, mm, n1, n3, l1, l2⟩, 2000 * j + 805, hP7', by omega, fun d7 pl8 q7 hP8 => ?_⟩
        have q7' : d7 = .bool true := q7
        subst q7'
        walk_at "nz"
        refine iteN rfl ?_
        refine ws_next ?_
        exact ⟨_, _, _, _, _, rfl, hP8.up (by show 2000 * j + 805 + 300 ≤ 2000 * (j + 1); omega)⟩
      · refine ws_next ?_
        exact ⟨_, _, _, _, _, rfl, hP7'.up (by show 2000 * j + 805 ≤ 2000 * (j + 1); omega)⟩
    · rintro ds' pl' ⟨b3, b4, b5, b6, b7, rfl, hPj⟩
      exact ⟨_, _, _, _, _, _, _, rfl, rfl⟩
  · rintro ds' pl' ⟨b1, b2, b3, b4, b5, b6, b7, rfl, rfl⟩
    walk_at "go"
    exact rfl

end
/-! what the top has written -/
theorem here_mk {K : PySem.W.Frag} {h : Heap} {mg : Str → Option Value} {name : Str} {st : Stmt} {ps : List Str} {f : Addr} {oc : Value} {od an : Option Addr} {osl : Array (Option Value)} {kV doc pm cdv ct : Value} (X : K.In h) (G : h.Ns mainGlobals mg)
    (a : PySem.W.nsIn K mainGlobals name = some (some (.ref f))) (l : K.lookup f = some ⟨oc, od, .func (PySem.W.fnOf name name (defArgs st) (defBody st) (defScope st) .none kV doc pm an cdv ct), osl⟩) (c : PySem.W.codeIn K cdv name = true) (k : PySem.W.keepIn K (.ref f) = true)
    (b : ∀ (F : Fun K name name st f (PySem.W.fnOf name name (defArgs st) (defBody st) (defScope st) .none kV doc pm an cdv ct)), Binds K (PySem.W.fnOf name name (defArgs st) (defBody st) (defScope st) .none kV doc pm an cdv ct) ps []) : Here K mg name st ps f (PySem.W.fnOf name name (defArgs st) (defBody st) (defScope st) .none kV doc pm an cdv ct) :=
  ⟨fun_mk l c k, PySem.W.mg_of X G a, b (fun_mk l c k)⟩
theorem kw_mk {K : PySem.W.Frag} {h : Heap} {mg : Str → Option Value} {name : Str} {st : Stmt} {ps ks : List Str} {is : List Nat} {f : Addr} {oc : Value} {od an : Option Addr} {osl : Array (Option Value)} {kV doc pm cdv ct : Value} (X : K.In h) (G : h.Ns mainGlobals mg)
    (a : PySem.W.nsIn K mainGlobals name = some (some (.ref f))) (l : K.lookup f = some ⟨oc, od, .func (PySem.W.fnOf name name (defArgs st) (defBody st) (defScope st) .none kV doc pm an cdv ct), osl⟩)
    (b : ∀ (kV doc pm cdv ct : Value) (an : Option Addr) (ws : List Value), (pick is ws).length = ps.length → bindArgs (PySem.W.fnOf name name (defArgs st) (defBody st) (defScope st) .none kV doc pm an cdv ct) ⟨[], ks.zip ws⟩ = pure (ps.zip (pick is ws))) : KwOk K mg name ps ks is :=
  ⟨f, _, PySem.W.mg_of X G a, ⟨oc, od, osl, l⟩, fun s ws hl => .of_eq (b kV doc pm cdv ct an ws hl)⟩
/-- one def stands at the top -/
def At (K : PySem.W.Frag) (name : Str) (st : Stmt) : Prop := ∃ (f : Addr) (oc : Value) (od an : Option Addr) (osl : Array (Option Value)) (kV doc pm cdv ct : Value), PySem.W.nsIn K mainGlobals name = some (some (.ref f)) ∧ K.lookup f = some ⟨oc, od, .func (PySem.W.fnOf name name (defArgs st) (defBody st) (defScope st) .none kV doc pm an cdv ct), osl⟩ ∧ PySem.W.codeIn K cdv name = true ∧ PySem.W.keepIn K (.ref f) = true
theorem all_mk {l : PySem.W.OpenLaw} {w : World} {K : PySem.W.Frag} {h : Heap} {mg : Str → Option Value} {fa : Addr} (X : K.In h) (G : h.Ns mainGlobals mg) (hfa : mg "law" = some (.ref fa))
    {f_is_whole f_is_pair f_is_whole_pair f_check_whole f_check_least f_check_between f_catches f_floor_catch f_copied_comb f_common_pitch f_is_pitch f_are_teeth f_check_comb f_check_device f_is_comb f_plain_comb f_teeth_under f_repeated_teeth f_is_held f_after_move f_fits_device f_check_state f_check_moves f_check_moving f_moved_state f_comb_slacks f_device_slacks f_moved_bar f_repeated_heights f_cycle_rise f_far_height f_needed_cycles f_far_state f_first_time f_round_cycle f_check_begun f_check_both f_shifted_comb f_shifted_device f_are_alike f_alike_state f_check_reach f_check_within f_heights_from f_heights_behind_more f_best_heights f_best_height f_check_hand f_check_round f_check_rounds f_mean_rise f_slack_mean f_held_heights f_heights_at f_heights_behind f_stuck_heights f_check_small f_check_height f_check_bars f_pair_place f_moved_place f_single_moves f_joining_trail f_trail_back f_joining_count f_joining_moves f_span_rise f_pump_mean f_span_rows f_check_looks f_check_told f_all_bars f_seen_bars f_clash_index f__law_jar f__law_pick f__law_comb f__law_pair f__law_under f__law_stand f__law_steps f__law_round f__law_shifted f__law_times f__law_shift_right f__law_times_right f_law : Addr} {od_is_whole an_is_whole od_is_pair an_is_pair od_is_whole_pair an_is_whole_pair od_check_whole an_check_whole od_check_least an_check_least od_check_between an_check_between od_catches an_catches od_floor_catch an_floor_catch od_copied_comb an_copied_comb od_common_pitch an_common_pitch od_is_pitch an_is_pitch od_are_teeth an_are_teeth od_check_comb an_check_comb od_check_device an_check_device od_is_comb an_is_comb od_plain_comb an_plain_comb od_teeth_under an_teeth_under od_repeated_teeth an_repeated_teeth od_is_held an_is_held od_after_move an_after_move od_fits_device an_fits_device od_check_state an_check_state od_check_moves an_check_moves od_check_moving an_check_moving od_moved_state an_moved_state od_comb_slacks an_comb_slacks od_device_slacks an_device_slacks od_moved_bar an_moved_bar od_repeated_heights an_repeated_heights od_cycle_rise an_cycle_rise od_far_height an_far_height od_needed_cycles an_needed_cycles od_far_state an_far_state od_first_time an_first_time od_round_cycle an_round_cycle od_check_begun an_check_begun od_check_both an_check_both od_shifted_comb an_shifted_comb od_shifted_device an_shifted_device od_are_alike an_are_alike od_alike_state an_alike_state od_check_reach an_check_reach od_check_within an_check_within od_heights_from an_heights_from od_heights_behind_more an_heights_behind_more od_best_heights an_best_heights od_best_height an_best_height od_check_hand an_check_hand od_check_round an_check_round od_check_rounds an_check_rounds od_mean_rise an_mean_rise od_slack_mean an_slack_mean od_held_heights an_held_heights od_heights_at an_heights_at od_heights_behind an_heights_behind od_stuck_heights an_stuck_heights od_check_small an_check_small od_check_height an_check_height od_check_bars an_check_bars od_pair_place an_pair_place od_moved_place an_moved_place od_single_moves an_single_moves od_joining_trail an_joining_trail od_trail_back an_trail_back od_joining_count an_joining_count od_joining_moves an_joining_moves od_span_rise an_span_rise od_pump_mean an_pump_mean od_span_rows an_span_rows od_check_looks an_check_looks od_check_told an_check_told od_all_bars an_all_bars od_seen_bars an_seen_bars od_clash_index an_clash_index od__law_jar an__law_jar od__law_pick an__law_pick od__law_comb an__law_comb od__law_pair an__law_pair od__law_under an__law_under od__law_stand an__law_stand od__law_steps an__law_steps od__law_round an__law_round od__law_shifted an__law_shifted od__law_times an__law_times od__law_shift_right an__law_shift_right od__law_times_right an__law_times_right od_law an_law : Option Addr} {sl_is_whole sl_is_pair sl_is_whole_pair sl_check_whole sl_check_least sl_check_between sl_catches sl_floor_catch sl_copied_comb sl_common_pitch sl_is_pitch sl_are_teeth sl_check_comb sl_check_device sl_is_comb sl_plain_comb sl_teeth_under sl_repeated_teeth sl_is_held sl_after_move sl_fits_device sl_check_state sl_check_moves sl_check_moving sl_moved_state sl_comb_slacks sl_device_slacks sl_moved_bar sl_repeated_heights sl_cycle_rise sl_far_height sl_needed_cycles sl_far_state sl_first_time sl_round_cycle sl_check_begun sl_check_both sl_shifted_comb sl_shifted_device sl_are_alike sl_alike_state sl_check_reach sl_check_within sl_heights_from sl_heights_behind_more sl_best_heights sl_best_height sl_check_hand sl_check_round sl_check_rounds sl_mean_rise sl_slack_mean sl_held_heights sl_heights_at sl_heights_behind sl_stuck_heights sl_check_small sl_check_height sl_check_bars sl_pair_place sl_moved_place sl_single_moves sl_joining_trail sl_trail_back sl_joining_count sl_joining_moves sl_span_rise sl_pump_mean sl_span_rows sl_check_looks sl_check_told sl_all_bars sl_seen_bars sl_clash_index sl__law_jar sl__law_pick sl__law_comb sl__law_pair sl__law_under sl__law_stand sl__law_steps sl__law_round sl__law_shifted sl__law_times sl__law_shift_right sl__law_times_right sl_law : Array (Option Value)} {oc_is_whole kV_is_whole dc_is_whole pm_is_whole cd_is_whole ct_is_whole oc_is_pair kV_is_pair dc_is_pair pm_is_pair cd_is_pair ct_is_pair oc_is_whole_pair kV_is_whole_pair dc_is_whole_pair pm_is_whole_pair cd_is_whole_pair ct_is_whole_pair oc_check_whole kV_check_whole dc_check_whole pm_check_whole cd_check_whole ct_check_whole oc_check_least kV_check_least dc_check_least pm_check_least cd_check_least ct_check_least oc_check_between kV_check_between dc_check_between pm_check_between cd_check_between ct_check_between oc_catches kV_catches dc_catches pm_catches cd_catches ct_catches oc_floor_catch kV_floor_catch dc_floor_catch pm_floor_catch cd_floor_catch ct_floor_catch oc_copied_comb kV_copied_comb dc_copied_comb pm_copied_comb cd_copied_comb ct_copied_comb oc_common_pitch kV_common_pitch dc_common_pitch pm_common_pitch cd_common_pitch ct_common_pitch oc_is_pitch kV_is_pitch dc_is_pitch pm_is_pitch cd_is_pitch ct_is_pitch oc_are_teeth kV_are_teeth dc_are_teeth pm_are_teeth cd_are_teeth ct_are_teeth oc_check_comb kV_check_comb dc_check_comb pm_check_comb cd_check_comb ct_check_comb oc_check_device kV_check_device dc_check_device pm_check_device cd_check_device ct_check_device oc_is_comb kV_is_comb dc_is_comb pm_is_comb cd_is_comb ct_is_comb oc_plain_comb kV_plain_comb dc_plain_comb pm_plain_comb cd_plain_comb ct_plain_comb oc_teeth_under kV_teeth_under dc_teeth_under pm_teeth_under cd_teeth_under ct_teeth_under oc_repeated_teeth kV_repeated_teeth dc_repeated_teeth pm_repeated_teeth cd_repeated_teeth ct_repeated_teeth oc_is_held kV_is_held dc_is_held pm_is_held cd_is_held ct_is_held oc_after_move kV_after_move dc_after_move pm_after_move cd_after_move ct_after_move oc_fits_device kV_fits_device dc_fits_device pm_fits_device cd_fits_device ct_fits_device oc_check_state kV_check_state dc_check_state pm_check_state cd_check_state ct_check_state oc_check_moves kV_check_moves dc_check_moves pm_check_moves cd_check_moves ct_check_moves oc_check_moving kV_check_moving dc_check_moving pm_check_moving cd_check_moving ct_check_moving oc_moved_state kV_moved_state dc_moved_state pm_moved_state cd_moved_state ct_moved_state oc_comb_slacks kV_comb_slacks dc_comb_slacks pm_comb_slacks cd_comb_slacks ct_comb_slacks oc_device_slacks kV_device_slacks dc_device_slacks pm_device_slacks cd_device_slacks ct_device_slacks oc_moved_bar kV_moved_bar dc_moved_bar pm_moved_bar cd_moved_bar ct_moved_bar oc_repeated_heights kV_repeated_heights dc_repeated_heights pm_repeated_heights cd_repeated_heights ct_repeated_heights oc_cycle_rise kV_cycle_rise dc_cycle_rise pm_cycle_rise cd_cycle_rise ct_cycle_rise oc_far_height kV_far_height dc_far_height pm_far_height cd_far_height ct_far_height oc_needed_cycles kV_needed_cycles dc_needed_cycles pm_needed_cycles cd_needed_cycles ct_needed_cycles oc_far_state kV_far_state dc_far_state pm_far_state cd_far_state ct_far_state oc_first_time kV_first_time dc_first_time pm_first_time cd_first_time ct_first_time oc_round_cycle kV_round_cycle dc_round_cycle pm_round_cycle cd_round_cycle ct_round_cycle oc_check_begun kV_check_begun dc_check_begun pm_check_begun cd_check_begun ct_check_begun oc_check_both kV_check_both dc_check_both pm_check_both cd_check_both ct_check_both oc_shifted_comb kV_shifted_comb dc_shifted_comb pm_shifted_comb cd_shifted_comb ct_shifted_comb oc_shifted_device kV_shifted_device dc_shifted_device pm_shifted_device cd_shifted_device ct_shifted_device oc_are_alike kV_are_alike dc_are_alike pm_are_alike cd_are_alike ct_are_alike oc_alike_state kV_alike_state dc_alike_state pm_alike_state cd_alike_state ct_alike_state oc_check_reach kV_check_reach dc_check_reach pm_check_reach cd_check_reach ct_check_reach oc_check_within kV_check_within dc_check_within pm_check_within cd_check_within ct_check_within oc_heights_from kV_heights_from dc_heights_from pm_heights_from cd_heights_from ct_heights_from oc_heights_behind_more kV_heights_behind_more dc_heights_behind_more pm_heights_behind_more cd_heights_behind_more ct_heights_behind_more oc_best_heights kV_best_heights dc_best_heights pm_best_heights cd_best_heights ct_best_heights oc_best_height kV_best_height dc_best_height pm_best_height cd_best_height ct_best_height oc_check_hand kV_check_hand dc_check_hand pm_check_hand cd_check_hand ct_check_hand oc_check_round kV_check_round dc_check_round pm_check_round cd_check_round ct_check_round oc_check_rounds kV_check_rounds dc_check_rounds pm_check_rounds cd_check_rounds ct_check_rounds oc_mean_rise kV_mean_rise dc_mean_rise pm_mean_rise cd_mean_rise ct_mean_rise oc_slack_mean kV_slack_mean dc_slack_mean pm_slack_mean cd_slack_mean ct_slack_mean oc_held_heights kV_held_heights dc_held_heights pm_held_heights cd_held_heights ct_held_heights oc_heights_at kV_heights_at dc_heights_at pm_heights_at cd_heights_at ct_heights_at oc_heights_behind kV_heights_behind dc_heights_behind pm_heights_behind cd_heights_behind ct_heights_behind oc_stuck_heights kV_stuck_heights dc_stuck_heights pm_stuck_heights cd_stuck_heights ct_stuck_heights oc_check_small kV_check_small dc_check_small pm_check_small cd_check_small ct_check_small oc_check_height kV_check_height dc_check_height pm_check_height cd_check_height ct_check_height oc_check_bars kV_check_bars dc_check_bars pm_check_bars cd_check_bars ct_check_bars oc_pair_place kV_pair_place dc_pair_place pm_pair_place cd_pair_place ct_pair_place oc_moved_place kV_moved_place dc_moved_place pm_moved_place cd_moved_place ct_moved_place oc_single_moves kV_single_moves dc_single_moves pm_single_moves cd_single_moves ct_single_moves oc_joining_trail kV_joining_trail dc_joining_trail pm_joining_trail cd_joining_trail ct_joining_trail oc_trail_back kV_trail_back dc_trail_back pm_trail_back cd_trail_back ct_trail_back oc_joining_count kV_joining_count dc_joining_count pm_joining_count cd_joining_count ct_joining_count oc_joining_moves kV_joining_moves dc_joining_moves pm_joining_moves cd_joining_moves ct_joining_moves oc_span_rise kV_span_rise dc_span_rise pm_span_rise cd_span_rise ct_span_rise oc_pump_mean kV_pump_mean dc_pump_mean pm_pump_mean cd_pump_mean ct_pump_mean oc_span_rows kV_span_rows dc_span_rows pm_span_rows cd_span_rows ct_span_rows oc_check_looks kV_check_looks dc_check_looks pm_check_looks cd_check_looks ct_check_looks oc_check_told kV_check_told dc_check_told pm_check_told cd_check_told ct_check_told oc_all_bars kV_all_bars dc_all_bars pm_all_bars cd_all_bars ct_all_bars oc_seen_bars kV_seen_bars dc_seen_bars pm_seen_bars cd_seen_bars ct_seen_bars oc_clash_index kV_clash_index dc_clash_index pm_clash_index cd_clash_index ct_clash_index oc__law_jar kV__law_jar dc__law_jar pm__law_jar cd__law_jar ct__law_jar oc__law_pick kV__law_pick dc__law_pick pm__law_pick cd__law_pick ct__law_pick oc__law_comb kV__law_comb dc__law_comb pm__law_comb cd__law_comb ct__law_comb oc__law_pair kV__law_pair dc__law_pair pm__law_pair cd__law_pair ct__law_pair oc__law_under kV__law_under dc__law_under pm__law_under cd__law_under ct__law_under oc__law_stand kV__law_stand dc__law_stand pm__law_stand cd__law_stand ct__law_stand oc__law_steps kV__law_steps dc__law_steps pm__law_steps cd__law_steps ct__law_steps oc__law_round kV__law_round dc__law_round pm__law_round cd__law_round ct__law_round oc__law_shifted kV__law_shifted dc__law_shifted pm__law_shifted cd__law_shifted ct__law_shifted oc__law_times kV__law_times dc__law_times pm__law_times cd__law_times ct__law_times oc__law_shift_right kV__law_shift_right dc__law_shift_right pm__law_shift_right cd__law_shift_right ct__law_shift_right oc__law_times_right kV__law_times_right dc__law_times_right pm__law_times_right cd__law_times_right ct__law_times_right oc_law kV_law dc_law pm_law cd_law ct_law : Value}
    (a_is_whole : PySem.W.nsIn K mainGlobals "is_whole" = some (some (.ref f_is_whole))) (l_is_whole : K.lookup f_is_whole = some ⟨oc_is_whole, od_is_whole, .func (PySem.W.fnOf "is_whole" "is_whole" (defArgs s_is_whole) (defBody s_is_whole) (defScope s_is_whole) .none kV_is_whole dc_is_whole pm_is_whole an_is_whole cd_is_whole ct_is_whole), sl_is_whole⟩) (c_is_whole : PySem.W.codeIn K cd_is_whole "is_whole" = true) (k_is_whole : PySem.W.keepIn K (.ref f_is_whole) = true)
    (a_is_pair : PySem.W.nsIn K mainGlobals "is_pair" = some (some (.ref f_is_pair))) (l_is_pair : K.lookup f_is_pair = some ⟨oc_is_pair, od_is_pair, .func (PySem.W.fnOf "is_pair" "is_pair" (defArgs s_is_pair) (defBody s_is_pair) (defScope s_is_pair) .none kV_is_pair dc_is_pair pm_is_pair an_is_pair cd_is_pair ct_is_pair), sl_is_pair⟩) (c_is_pair : PySem.W.codeIn K cd_is_pair "is_pair" = true) (k_is_pair : PySem.W.keepIn K (.ref f_is_pair) = true)
    (a_is_whole_pair : PySem.W.nsIn K mainGlobals "is_whole_pair" = some (some (.ref f_is_whole_pair))) (l_is_whole_pair : K.lookup f_is_whole_pair = some ⟨oc_is_whole_pair, od_is_whole_pair, .func (PySem.W.fnOf "is_whole_pair" "is_whole_pair" (defArgs s_is_whole_pair) (defBody s_is_whole_pair) (defScope s_is_whole_pair) .none kV_is_whole_pair dc_is_whole_pair pm_is_whole_pair an_is_whole_pair cd_is_whole_pair ct_is_whole_pair), sl_is_whole_pair⟩) (c_is_whole_pair : PySem.W.codeIn K cd_is_whole_pair "is_whole_pair" = true) (k_is_whole_pair : PySem.W.keepIn K (.ref f_is_whole_pair) = true)
    (a_check_whole : PySem.W.nsIn K mainGlobals "check_whole" = some (some (.ref f_check_whole))) (l_check_whole : K.lookup f_check_whole = some ⟨oc_check_whole, od_check_whole, .func (PySem.W.fnOf "check_whole" "check_whole" (defArgs s_check_whole) (defBody s_check_whole) (defScope s_check_whole) .none kV_check_whole dc_check_whole pm_check_whole an_check_whole cd_check_whole ct_check_whole), sl_check_whole⟩) (c_check_whole : PySem.W.codeIn K cd_check_whole "check_whole" = true) (k_check_whole : PySem.W.keepIn K (.ref f_check_whole) = true)
    (a_check_least : PySem.W.nsIn K mainGlobals "check_least" = some (some (.ref f_check_least))) (l_check_least : K.lookup f_check_least = some ⟨oc_check_least, od_check_least, .func (PySem.W.fnOf "check_least" "check_least" (defArgs s_check_least) (defBody s_check_least) (defScope s_check_least) .none kV_check_least dc_check_least pm_check_least an_check_least cd_check_least ct_check_least), sl_check_least⟩) (c_check_least : PySem.W.codeIn K cd_check_least "check_least" = true) (k_check_least : PySem.W.keepIn K (.ref f_check_least) = true)
    (a_check_between : PySem.W.nsIn K mainGlobals "check_between" = some (some (.ref f_check_between))) (l_check_between : K.lookup f_check_between = some ⟨oc_check_between, od_check_between, .func (PySem.W.fnOf "check_between" "check_between" (defArgs s_check_between) (defBody s_check_between) (defScope s_check_between) .none kV_check_between dc_check_between pm_check_between an_check_between cd_check_between ct_check_between), sl_check_between⟩) (c_check_between : PySem.W.codeIn K cd_check_between "check_between" = true) (k_check_between : PySem.W.keepIn K (.ref f_check_between) = true)
    (a_catches : PySem.W.nsIn K mainGlobals "catches" = some (some (.ref f_catches))) (l_catches : K.lookup f_catches = some ⟨oc_catches, od_catches, .func (PySem.W.fnOf "catches" "catches" (defArgs s_catches) (defBody s_catches) (defScope s_catches) .none kV_catches dc_catches pm_catches an_catches cd_catches ct_catches), sl_catches⟩) (c_catches : PySem.W.codeIn K cd_catches "catches" = true) (k_catches : PySem.W.keepIn K (.ref f_catches) = true)
    (a_floor_catch : PySem.W.nsIn K mainGlobals "floor_catch" = some (some (.ref f_floor_catch))) (l_floor_catch : K.lookup f_floor_catch = some ⟨oc_floor_catch, od_floor_catch, .func (PySem.W.fnOf "floor_catch" "floor_catch" (defArgs s_floor_catch) (defBody s_floor_catch) (defScope s_floor_catch) .none kV_floor_catch dc_floor_catch pm_floor_catch an_floor_catch cd_floor_catch ct_floor_catch), sl_floor_catch⟩) (c_floor_catch : PySem.W.codeIn K cd_floor_catch "floor_catch" = true) (k_floor_catch : PySem.W.keepIn K (.ref f_floor_catch) = true)
    (a_copied_comb : PySem.W.nsIn K mainGlobals "copied_comb" = some (some (.ref f_copied_comb))) (l_copied_comb : K.lookup f_copied_comb = some ⟨oc_copied_comb, od_copied_comb, .func (PySem.W.fnOf "copied_comb" "copied_comb" (defArgs s_copied_comb) (defBody s_copied_comb) (defScope s_copied_comb) .none kV_copied_comb dc_copied_comb pm_copied_comb an_copied_comb cd_copied_comb ct_copied_comb), sl_copied_comb⟩) (c_copied_comb : PySem.W.codeIn K cd_copied_comb "copied_comb" = true) (k_copied_comb : PySem.W.keepIn K (.ref f_copied_comb) = true)
    (a_common_pitch : PySem.W.nsIn K mainGlobals "common_pitch" = some (some (.ref f_common_pitch))) (l_common_pitch : K.lookup f_common_pitch = some ⟨oc_common_pitch, od_common_pitch, .func (PySem.W.fnOf "common_pitch" "common_pitch" (defArgs s_common_pitch) (defBody s_common_pitch) (defScope s_common_pitch) .none kV_common_pitch dc_common_pitch pm_common_pitch an_common_pitch cd_common_pitch ct_common_pitch), sl_common_pitch⟩) (c_common_pitch : PySem.W.codeIn K cd_common_pitch "common_pitch" = true) (k_common_pitch : PySem.W.keepIn K (.ref f_common_pitch) = true)
    (a_is_pitch : PySem.W.nsIn K mainGlobals "is_pitch" = some (some (.ref f_is_pitch))) (l_is_pitch : K.lookup f_is_pitch = some ⟨oc_is_pitch, od_is_pitch, .func (PySem.W.fnOf "is_pitch" "is_pitch" (defArgs s_is_pitch) (defBody s_is_pitch) (defScope s_is_pitch) .none kV_is_pitch dc_is_pitch pm_is_pitch an_is_pitch cd_is_pitch ct_is_pitch), sl_is_pitch⟩) (c_is_pitch : PySem.W.codeIn K cd_is_pitch "is_pitch" = true) (k_is_pitch : PySem.W.keepIn K (.ref f_is_pitch) = true)
    (a_are_teeth : PySem.W.nsIn K mainGlobals "are_teeth" = some (some (.ref f_are_teeth))) (l_are_teeth : K.lookup f_are_teeth = some ⟨oc_are_teeth, od_are_teeth, .func (PySem.W.fnOf "are_teeth" "are_teeth" (defArgs s_are_teeth) (defBody s_are_teeth) (defScope s_are_teeth) .none kV_are_teeth dc_are_teeth pm_are_teeth an_are_teeth cd_are_teeth ct_are_teeth), sl_are_teeth⟩) (c_are_teeth : PySem.W.codeIn K cd_are_teeth "are_teeth" = true) (k_are_teeth : PySem.W.keepIn K (.ref f_are_teeth) = true)
    (a_check_comb : PySem.W.nsIn K mainGlobals "check_comb" = some (some (.ref f_check_comb))) (l_check_comb : K.lookup f_check_comb = some ⟨oc_check_comb, od_check_comb, .func (PySem.W.fnOf "check_comb" "check_comb" (defArgs s_check_comb) (defBody s_check_comb) (defScope s_check_comb) .none kV_check_comb dc_check_comb pm_check_comb an_check_comb cd_check_comb ct_check_comb), sl_check_comb⟩) (c_check_comb : PySem.W.codeIn K cd_check_comb "check_comb" = true) (k_check_comb : PySem.W.keepIn K (.ref f_check_comb) = true)
    (a_check_device : PySem.W.nsIn K mainGlobals "check_device" = some (some (.ref f_check_device))) (l_check_device : K.lookup f_check_device = some ⟨oc_check_device, od_check_device, .func (PySem.W.fnOf "check_device" "check_device" (defArgs s_check_device) (defBody s_check_device) (defScope s_check_device) .none kV_check_device dc_check_device pm_check_device an_check_device cd_check_device ct_check_device), sl_check_device⟩) (c_check_device : PySem.W.codeIn K cd_check_device "check_device" = true) (k_check_device : PySem.W.keepIn K (.ref f_check_device) = true)
    (a_is_comb : PySem.W.nsIn K mainGlobals "is_comb" = some (some (.ref f_is_comb))) (l_is_comb : K.lookup f_is_comb = some ⟨oc_is_comb, od_is_comb, .func (PySem.W.fnOf "is_comb" "is_comb" (defArgs s_is_comb) (defBody s_is_comb) (defScope s_is_comb) .none kV_is_comb dc_is_comb pm_is_comb an_is_comb cd_is_comb ct_is_comb), sl_is_comb⟩) (c_is_comb : PySem.W.codeIn K cd_is_comb "is_comb" = true) (k_is_comb : PySem.W.keepIn K (.ref f_is_comb) = true)
    (a_plain_comb : PySem.W.nsIn K mainGlobals "plain_comb" = some (some (.ref f_plain_comb))) (l_plain_comb : K.lookup f_plain_comb = some ⟨oc_plain_comb, od_plain_comb, .func (PySem.W.fnOf "plain_comb" "plain_comb" (defArgs s_plain_comb) (defBody s_plain_comb) (defScope s_plain_comb) .none kV_plain_comb dc_plain_comb pm_plain_comb an_plain_comb cd_plain_comb ct_plain_comb), sl_plain_comb⟩) (c_plain_comb : PySem.W.codeIn K cd_plain_comb "plain_comb" = true) (k_plain_comb : PySem.W.keepIn K (.ref f_plain_comb) = true)
    (a_teeth_under : PySem.W.nsIn K mainGlobals "teeth_under" = some (some (.ref f_teeth_under))) (l_teeth_under : K.lookup f_teeth_under = some ⟨oc_teeth_under, od_teeth_under, .func (PySem.W.fnOf "teeth_under" "teeth_under" (defArgs s_teeth_under) (defBody s_teeth_under) (defScope s_teeth_under) .none kV_teeth_under dc_teeth_under pm_teeth_under an_teeth_under cd_teeth_under ct_teeth_under), sl_teeth_under⟩) (c_teeth_under : PySem.W.codeIn K cd_teeth_under "teeth_under" = true) (k_teeth_under : PySem.W.keepIn K (.ref f_teeth_under) = true)
    (a_repeated_teeth : PySem.W.nsIn K mainGlobals "repeated_teeth" = some (some (.ref f_repeated_teeth))) (l_repeated_teeth : K.lookup f_repeated_teeth = some ⟨oc_repeated_teeth, od_repeated_teeth, .func (PySem.W.fnOf "repeated_teeth" "repeated_teeth" (defArgs s_repeated_teeth) (defBody s_repeated_teeth) (defScope s_repeated_teeth) .none kV_repeated_teeth dc_repeated_teeth pm_repeated_teeth an_repeated_teeth cd_repeated_teeth ct_repeated_teeth), sl_repeated_teeth⟩) (c_repeated_teeth : PySem.W.codeIn K cd_repeated_teeth "repeated_teeth" = true) (k_repeated_teeth : PySem.W.keepIn K (.ref f_repeated_teeth) = true)
    (a_is_held : PySem.W.nsIn K mainGlobals "is_held" = some (some (.ref f_is_held))) (l_is_held : K.lookup f_is_held = some ⟨oc_is_held, od_is_held, .func (PySem.W.fnOf "is_held" "is_held" (defArgs s_is_held) (defBody s_is_held) (defScope s_is_held) .none kV_is_held dc_is_held pm_is_held an_is_held cd_is_held ct_is_held), sl_is_held⟩) (c_is_held : PySem.W.codeIn K cd_is_held "is_held" = true) (k_is_held : PySem.W.keepIn K (.ref f_is_held) = true)
    (a_after_move : PySem.W.nsIn K mainGlobals "after_move" = some (some (.ref f_after_move))) (l_after_move : K.lookup f_after_move = some ⟨oc_after_move, od_after_move, .func (PySem.W.fnOf "after_move" "after_move" (defArgs s_after_move) (defBody s_after_move) (defScope s_after_move) .none kV_after_move dc_after_move pm_after_move an_after_move cd_after_move ct_after_move), sl_after_move⟩) (c_after_move : PySem.W.codeIn K cd_after_move "after_move" = true) (k_after_move : PySem.W.keepIn K (.ref f_after_move) = true)
    (a_fits_device : PySem.W.nsIn K mainGlobals "fits_device" = some (some (.ref f_fits_device))) (l_fits_device : K.lookup f_fits_device = some ⟨oc_fits_device, od_fits_device, .func (PySem.W.fnOf "fits_device" "fits_device" (defArgs s_fits_device) (defBody s_fits_device) (defScope s_fits_device) .none kV_fits_device dc_fits_device pm_fits_device an_fits_device cd_fits_device ct_fits_device), sl_fits_device⟩) (c_fits_device : PySem.W.codeIn K cd_fits_device "fits_device" = true) (k_fits_device : PySem.W.keepIn K (.ref f_fits_device) = true)
    (a_check_state : PySem.W.nsIn K mainGlobals "check_state" = some (some (.ref f_check_state))) (l_check_state : K.lookup f_check_state = some ⟨oc_check_state, od_check_state, .func (PySem.W.fnOf "check_state" "check_state" (defArgs s_check_state) (defBody s_check_state) (defScope s_check_state) .none kV_check_state dc_check_state pm_check_state an_check_state cd_check_state ct_check_state), sl_check_state⟩) (c_check_state : PySem.W.codeIn K cd_check_state "check_state" = true) (k_check_state : PySem.W.keepIn K (.ref f_check_state) = true)
    (a_check_moves : PySem.W.nsIn K mainGlobals "check_moves" = some (some (.ref f_check_moves))) (l_check_moves : K.lookup f_check_moves = some ⟨oc_check_moves, od_check_moves, .func (PySem.W.fnOf "check_moves" "check_moves" (defArgs s_check_moves) (defBody s_check_moves) (defScope s_check_moves) .none kV_check_moves dc_check_moves pm_check_moves an_check_moves cd_check_moves ct_check_moves), sl_check_moves⟩) (c_check_moves : PySem.W.codeIn K cd_check_moves "check_moves" = true) (k_check_moves : PySem.W.keepIn K (.ref f_check_moves) = true)
    (a_check_moving : PySem.W.nsIn K mainGlobals "check_moving" = some (some (.ref f_check_moving))) (l_check_moving : K.lookup f_check_moving = some ⟨oc_check_moving, od_check_moving, .func (PySem.W.fnOf "check_moving" "check_moving" (defArgs s_check_moving) (defBody s_check_moving) (defScope s_check_moving) .none kV_check_moving dc_check_moving pm_check_moving an_check_moving cd_check_moving ct_check_moving), sl_check_moving⟩) (c_check_moving : PySem.W.codeIn K cd_check_moving "check_moving" = true) (k_check_moving : PySem.W.keepIn K (.ref f_check_moving) = true)
    (a_moved_state : PySem.W.nsIn K mainGlobals "moved_state" = some (some (.ref f_moved_state))) (l_moved_state : K.lookup f_moved_state = some ⟨oc_moved_state, od_moved_state, .func (PySem.W.fnOf "moved_state" "moved_state" (defArgs s_moved_state) (defBody s_moved_state) (defScope s_moved_state) .none kV_moved_state dc_moved_state pm_moved_state an_moved_state cd_moved_state ct_moved_state), sl_moved_state⟩) (c_moved_state : PySem.W.codeIn K cd_moved_state "moved_state" = true) (k_moved_state : PySem.W.keepIn K (.ref f_moved_state) = true)
    (a_comb_slacks : PySem.W.nsIn K mainGlobals "comb_slacks" = some (some (.ref f_comb_slacks))) (l_comb_slacks : K.lookup f_comb_slacks = some ⟨oc_comb_slacks, od_comb_slacks, .func (PySem.W.fnOf "comb_slacks" "comb_slacks" (defArgs s_comb_slacks) (defBody s_comb_slacks) (defScope s_comb_slacks) .none kV_comb_slacks dc_comb_slacks pm_comb_slacks an_comb_slacks cd_comb_slacks ct_comb_slacks), sl_comb_slacks⟩) (c_comb_slacks : PySem.W.codeIn K cd_comb_slacks "comb_slacks" = true) (k_comb_slacks : PySem.W.keepIn K (.ref f_comb_slacks) = true)
    (a_device_slacks : PySem.W.nsIn K mainGlobals "device_slacks" = some (some (.ref f_device_slacks))) (l_device_slacks : K.lookup f_device_slacks = some ⟨oc_device_slacks, od_device_slacks, .func (PySem.W.fnOf "device_slacks" "device_slacks" (defArgs s_device_slacks) (defBody s_device_slacks) (defScope s_device_slacks) .none kV_device_slacks dc_device_slacks pm_device_slacks an_device_slacks cd_device_slacks ct_device_slacks), sl_device_slacks⟩) (c_device_slacks : PySem.W.codeIn K cd_device_slacks "device_slacks" = true) (k_device_slacks : PySem.W.keepIn K (.ref f_device_slacks) = true)
    (a_moved_bar : PySem.W.nsIn K mainGlobals "moved_bar" = some (some (.ref f_moved_bar))) (l_moved_bar : K.lookup f_moved_bar = some ⟨oc_moved_bar, od_moved_bar, .func (PySem.W.fnOf "moved_bar" "moved_bar" (defArgs s_moved_bar) (defBody s_moved_bar) (defScope s_moved_bar) .none kV_moved_bar dc_moved_bar pm_moved_bar an_moved_bar cd_moved_bar ct_moved_bar), sl_moved_bar⟩) (c_moved_bar : PySem.W.codeIn K cd_moved_bar "moved_bar" = true) (k_moved_bar : PySem.W.keepIn K (.ref f_moved_bar) = true)
    (a_repeated_heights : PySem.W.nsIn K mainGlobals "repeated_heights" = some (some (.ref f_repeated_heights))) (l_repeated_heights : K.lookup f_repeated_heights = some ⟨oc_repeated_heights, od_repeated_heights, .func (PySem.W.fnOf "repeated_heights" "repeated_heights" (defArgs s_repeated_heights) (defBody s_repeated_heights) (defScope s_repeated_heights) .none kV_repeated_heights dc_repeated_heights pm_repeated_heights an_repeated_heights cd_repeated_heights ct_repeated_heights), sl_repeated_heights⟩) (c_repeated_heights : PySem.W.codeIn K cd_repeated_heights "repeated_heights" = true) (k_repeated_heights : PySem.W.keepIn K (.ref f_repeated_heights) = true)
    (a_cycle_rise : PySem.W.nsIn K mainGlobals "cycle_rise" = some (some (.ref f_cycle_rise))) (l_cycle_rise : K.lookup f_cycle_rise = some ⟨oc_cycle_rise, od_cycle_rise, .func (PySem.W.fnOf "cycle_rise" "cycle_rise" (defArgs s_cycle_rise) (defBody s_cycle_rise) (defScope s_cycle_rise) .none kV_cycle_rise dc_cycle_rise pm_cycle_rise an_cycle_rise cd_cycle_rise ct_cycle_rise), sl_cycle_rise⟩) (c_cycle_rise : PySem.W.codeIn K cd_cycle_rise "cycle_rise" = true) (k_cycle_rise : PySem.W.keepIn K (.ref f_cycle_rise) = true)
    (a_far_height : PySem.W.nsIn K mainGlobals "far_height" = some (some (.ref f_far_height))) (l_far_height : K.lookup f_far_height = some ⟨oc_far_height, od_far_height, .func (PySem.W.fnOf "far_height" "far_height" (defArgs s_far_height) (defBody s_far_height) (defScope s_far_height) .none kV_far_height dc_far_height pm_far_height an_far_height cd_far_height ct_far_height), sl_far_height⟩) (c_far_height : PySem.W.codeIn K cd_far_height "far_height" = true) (k_far_height : PySem.W.keepIn K (.ref f_far_height) = true)
    (a_needed_cycles : PySem.W.nsIn K mainGlobals "needed_cycles" = some (some (.ref f_needed_cycles))) (l_needed_cycles : K.lookup f_needed_cycles = some ⟨oc_needed_cycles, od_needed_cycles, .func (PySem.W.fnOf "needed_cycles" "needed_cycles" (defArgs s_needed_cycles) (defBody s_needed_cycles) (defScope s_needed_cycles) .none kV_needed_cycles dc_needed_cycles pm_needed_cycles an_needed_cycles cd_needed_cycles ct_needed_cycles), sl_needed_cycles⟩) (c_needed_cycles : PySem.W.codeIn K cd_needed_cycles "needed_cycles" = true) (k_needed_cycles : PySem.W.keepIn K (.ref f_needed_cycles) = true)
    (a_far_state : PySem.W.nsIn K mainGlobals "far_state" = some (some (.ref f_far_state))) (l_far_state : K.lookup f_far_state = some ⟨oc_far_state, od_far_state, .func (PySem.W.fnOf "far_state" "far_state" (defArgs s_far_state) (defBody s_far_state) (defScope s_far_state) .none kV_far_state dc_far_state pm_far_state an_far_state cd_far_state ct_far_state), sl_far_state⟩) (c_far_state : PySem.W.codeIn K cd_far_state "far_state" = true) (k_far_state : PySem.W.keepIn K (.ref f_far_state) = true)
    (a_first_time : PySem.W.nsIn K mainGlobals "first_time" = some (some (.ref f_first_time))) (l_first_time : K.lookup f_first_time = some ⟨oc_first_time, od_first_time, .func (PySem.W.fnOf "first_time" "first_time" (defArgs s_first_time) (defBody s_first_time) (defScope s_first_time) .none kV_first_time dc_first_time pm_first_time an_first_time cd_first_time ct_first_time), sl_first_time⟩) (c_first_time : PySem.W.codeIn K cd_first_time "first_time" = true) (k_first_time : PySem.W.keepIn K (.ref f_first_time) = true)
    (a_round_cycle : PySem.W.nsIn K mainGlobals "round_cycle" = some (some (.ref f_round_cycle))) (l_round_cycle : K.lookup f_round_cycle = some ⟨oc_round_cycle, od_round_cycle, .func (PySem.W.fnOf "round_cycle" "round_cycle" (defArgs s_round_cycle) (defBody s_round_cycle) (defScope s_round_cycle) .none kV_round_cycle dc_round_cycle pm_round_cycle an_round_cycle cd_round_cycle ct_round_cycle), sl_round_cycle⟩) (c_round_cycle : PySem.W.codeIn K cd_round_cycle "round_cycle" = true) (k_round_cycle : PySem.W.keepIn K (.ref f_round_cycle) = true)
    (a_check_begun : PySem.W.nsIn K mainGlobals "check_begun" = some (some (.ref f_check_begun))) (l_check_begun : K.lookup f_check_begun = some ⟨oc_check_begun, od_check_begun, .func (PySem.W.fnOf "check_begun" "check_begun" (defArgs s_check_begun) (defBody s_check_begun) (defScope s_check_begun) .none kV_check_begun dc_check_begun pm_check_begun an_check_begun cd_check_begun ct_check_begun), sl_check_begun⟩) (c_check_begun : PySem.W.codeIn K cd_check_begun "check_begun" = true) (k_check_begun : PySem.W.keepIn K (.ref f_check_begun) = true)
    (a_check_both : PySem.W.nsIn K mainGlobals "check_both" = some (some (.ref f_check_both))) (l_check_both : K.lookup f_check_both = some ⟨oc_check_both, od_check_both, .func (PySem.W.fnOf "check_both" "check_both" (defArgs s_check_both) (defBody s_check_both) (defScope s_check_both) .none kV_check_both dc_check_both pm_check_both an_check_both cd_check_both ct_check_both), sl_check_both⟩) (c_check_both : PySem.W.codeIn K cd_check_both "check_both" = true) (k_check_both : PySem.W.keepIn K (.ref f_check_both) = true)
    (a_shifted_comb : PySem.W.nsIn K mainGlobals "shifted_comb" = some (some (.ref f_shifted_comb))) (l_shifted_comb : K.lookup f_shifted_comb = some ⟨oc_shifted_comb, od_shifted_comb, .func (PySem.W.fnOf "shifted_comb" "shifted_comb" (defArgs s_shifted_comb) (defBody s_shifted_comb) (defScope s_shifted_comb) .none kV_shifted_comb dc_shifted_comb pm_shifted_comb an_shifted_comb cd_shifted_comb ct_shifted_comb), sl_shifted_comb⟩) (c_shifted_comb : PySem.W.codeIn K cd_shifted_comb "shifted_comb" = true) (k_shifted_comb : PySem.W.keepIn K (.ref f_shifted_comb) = true)
    (a_shifted_device : PySem.W.nsIn K mainGlobals "shifted_device" = some (some (.ref f_shifted_device))) (l_shifted_device : K.lookup f_shifted_device = some ⟨oc_shifted_device, od_shifted_device, .func (PySem.W.fnOf "shifted_device" "shifted_device" (defArgs s_shifted_device) (defBody s_shifted_device) (defScope s_shifted_device) .none kV_shifted_device dc_shifted_device pm_shifted_device an_shifted_device cd_shifted_device ct_shifted_device), sl_shifted_device⟩) (c_shifted_device : PySem.W.codeIn K cd_shifted_device "shifted_device" = true) (k_shifted_device : PySem.W.keepIn K (.ref f_shifted_device) = true)
    (a_are_alike : PySem.W.nsIn K mainGlobals "are_alike" = some (some (.ref f_are_alike))) (l_are_alike : K.lookup f_are_alike = some ⟨oc_are_alike, od_are_alike, .func (PySem.W.fnOf "are_alike" "are_alike" (defArgs s_are_alike) (defBody s_are_alike) (defScope s_are_alike) .none kV_are_alike dc_are_alike pm_are_alike an_are_alike cd_are_alike ct_are_alike), sl_are_alike⟩) (c_are_alike : PySem.W.codeIn K cd_are_alike "are_alike" = true) (k_are_alike : PySem.W.keepIn K (.ref f_are_alike) = true)
    (a_alike_state : PySem.W.nsIn K mainGlobals "alike_state" = some (some (.ref f_alike_state))) (l_alike_state : K.lookup f_alike_state = some ⟨oc_alike_state, od_alike_state, .func (PySem.W.fnOf "alike_state" "alike_state" (defArgs s_alike_state) (defBody s_alike_state) (defScope s_alike_state) .none kV_alike_state dc_alike_state pm_alike_state an_alike_state cd_alike_state ct_alike_state), sl_alike_state⟩) (c_alike_state : PySem.W.codeIn K cd_alike_state "alike_state" = true) (k_alike_state : PySem.W.keepIn K (.ref f_alike_state) = true)
    (a_check_reach : PySem.W.nsIn K mainGlobals "check_reach" = some (some (.ref f_check_reach))) (l_check_reach : K.lookup f_check_reach = some ⟨oc_check_reach, od_check_reach, .func (PySem.W.fnOf "check_reach" "check_reach" (defArgs s_check_reach) (defBody s_check_reach) (defScope s_check_reach) .none kV_check_reach dc_check_reach pm_check_reach an_check_reach cd_check_reach ct_check_reach), sl_check_reach⟩) (c_check_reach : PySem.W.codeIn K cd_check_reach "check_reach" = true) (k_check_reach : PySem.W.keepIn K (.ref f_check_reach) = true)
    (a_check_within : PySem.W.nsIn K mainGlobals "check_within" = some (some (.ref f_check_within))) (l_check_within : K.lookup f_check_within = some ⟨oc_check_within, od_check_within, .func (PySem.W.fnOf "check_within" "check_within" (defArgs s_check_within) (defBody s_check_within) (defScope s_check_within) .none kV_check_within dc_check_within pm_check_within an_check_within cd_check_within ct_check_within), sl_check_within⟩) (c_check_within : PySem.W.codeIn K cd_check_within "check_within" = true) (k_check_within : PySem.W.keepIn K (.ref f_check_within) = true)
    (a_heights_from : PySem.W.nsIn K mainGlobals "heights_from" = some (some (.ref f_heights_from))) (l_heights_from : K.lookup f_heights_from = some ⟨oc_heights_from, od_heights_from, .func (PySem.W.fnOf "heights_from" "heights_from" (defArgs s_heights_from) (defBody s_heights_from) (defScope s_heights_from) .none kV_heights_from dc_heights_from pm_heights_from an_heights_from cd_heights_from ct_heights_from), sl_heights_from⟩) (c_heights_from : PySem.W.codeIn K cd_heights_from "heights_from" = true) (k_heights_from : PySem.W.keepIn K (.ref f_heights_from) = true)
    (a_heights_behind_more : PySem.W.nsIn K mainGlobals "heights_behind_more" = some (some (.ref f_heights_behind_more))) (l_heights_behind_more : K.lookup f_heights_behind_more = some ⟨oc_heights_behind_more, od_heights_behind_more, .func (PySem.W.fnOf "heights_behind_more" "heights_behind_more" (defArgs s_heights_behind_more) (defBody s_heights_behind_more) (defScope s_heights_behind_more) .none kV_heights_behind_more dc_heights_behind_more pm_heights_behind_more an_heights_behind_more cd_heights_behind_more ct_heights_behind_more), sl_heights_behind_more⟩) (c_heights_behind_more : PySem.W.codeIn K cd_heights_behind_more "heights_behind_more" = true) (k_heights_behind_more : PySem.W.keepIn K (.ref f_heights_behind_more) = true)
    (a_best_heights : PySem.W.nsIn K mainGlobals "best_heights" = some (some (.ref f_best_heights))) (l_best_heights : K.lookup f_best_heights = some ⟨oc_best_heights, od_best_heights, .func (PySem.W.fnOf "best_heights" "best_heights" (defArgs s_best_heights) (defBody s_best_heights) (defScope s_best_heights) .none kV_best_heights dc_best_heights pm_best_heights an_best_heights cd_best_heights ct_best_heights), sl_best_heights⟩) (c_best_heights : PySem.W.codeIn K cd_best_heights "best_heights" = true) (k_best_heights : PySem.W.keepIn K (.ref f_best_heights) = true)
    (a_best_height : PySem.W.nsIn K mainGlobals "best_height" = some (some (.ref f_best_height))) (l_best_height : K.lookup f_best_height = some ⟨oc_best_height, od_best_height, .func (PySem.W.fnOf "best_height" "best_height" (defArgs s_best_height) (defBody s_best_height) (defScope s_best_height) .none kV_best_height dc_best_height pm_best_height an_best_height cd_best_height ct_best_height), sl_best_height⟩) (c_best_height : PySem.W.codeIn K cd_best_height "best_height" = true) (k_best_height : PySem.W.keepIn K (.ref f_best_height) = true)
    (a_check_hand : PySem.W.nsIn K mainGlobals "check_hand" = some (some (.ref f_check_hand))) (l_check_hand : K.lookup f_check_hand = some ⟨oc_check_hand, od_check_hand, .func (PySem.W.fnOf "check_hand" "check_hand" (defArgs s_check_hand) (defBody s_check_hand) (defScope s_check_hand) .none kV_check_hand dc_check_hand pm_check_hand an_check_hand cd_check_hand ct_check_hand), sl_check_hand⟩) (c_check_hand : PySem.W.codeIn K cd_check_hand "check_hand" = true) (k_check_hand : PySem.W.keepIn K (.ref f_check_hand) = true)
    (a_check_round : PySem.W.nsIn K mainGlobals "check_round" = some (some (.ref f_check_round))) (l_check_round : K.lookup f_check_round = some ⟨oc_check_round, od_check_round, .func (PySem.W.fnOf "check_round" "check_round" (defArgs s_check_round) (defBody s_check_round) (defScope s_check_round) .none kV_check_round dc_check_round pm_check_round an_check_round cd_check_round ct_check_round), sl_check_round⟩) (c_check_round : PySem.W.codeIn K cd_check_round "check_round" = true) (k_check_round : PySem.W.keepIn K (.ref f_check_round) = true)
    (a_check_rounds : PySem.W.nsIn K mainGlobals "check_rounds" = some (some (.ref f_check_rounds))) (l_check_rounds : K.lookup f_check_rounds = some ⟨oc_check_rounds, od_check_rounds, .func (PySem.W.fnOf "check_rounds" "check_rounds" (defArgs s_check_rounds) (defBody s_check_rounds) (defScope s_check_rounds) .none kV_check_rounds dc_check_rounds pm_check_rounds an_check_rounds cd_check_rounds ct_check_rounds), sl_check_rounds⟩) (c_check_rounds : PySem.W.codeIn K cd_check_rounds "check_rounds" = true) (k_check_rounds : PySem.W.keepIn K (.ref f_check_rounds) = true)
    (a_mean_rise : PySem.W.nsIn K mainGlobals "mean_rise" = some (some (.ref f_mean_rise))) (l_mean_rise : K.lookup f_mean_rise = some ⟨oc_mean_rise, od_mean_rise, .func (PySem.W.fnOf "mean_rise" "mean_rise" (defArgs s_mean_rise) (defBody s_mean_rise) (defScope s_mean_rise) .none kV_mean_rise dc_mean_rise pm_mean_rise an_mean_rise cd_mean_rise ct_mean_rise), sl_mean_rise⟩) (c_mean_rise : PySem.W.codeIn K cd_mean_rise "mean_rise" = true) (k_mean_rise : PySem.W.keepIn K (.ref f_mean_rise) = true)
    (a_slack_mean : PySem.W.nsIn K mainGlobals "slack_mean" = some (some (.ref f_slack_mean))) (l_slack_mean : K.lookup f_slack_mean = some ⟨oc_slack_mean, od_slack_mean, .func (PySem.W.fnOf "slack_mean" "slack_mean" (defArgs s_slack_mean) (defBody s_slack_mean) (defScope s_slack_mean) .none kV_slack_mean dc_slack_mean pm_slack_mean an_slack_mean cd_slack_mean ct_slack_mean), sl_slack_mean⟩) (c_slack_mean : PySem.W.codeIn K cd_slack_mean "slack_mean" = true) (k_slack_mean : PySem.W.keepIn K (.ref f_slack_mean) = true)
    (a_held_heights : PySem.W.nsIn K mainGlobals "held_heights" = some (some (.ref f_held_heights))) (l_held_heights : K.lookup f_held_heights = some ⟨oc_held_heights, od_held_heights, .func (PySem.W.fnOf "held_heights" "held_heights" (defArgs s_held_heights) (defBody s_held_heights) (defScope s_held_heights) .none kV_held_heights dc_held_heights pm_held_heights an_held_heights cd_held_heights ct_held_heights), sl_held_heights⟩) (c_held_heights : PySem.W.codeIn K cd_held_heights "held_heights" = true) (k_held_heights : PySem.W.keepIn K (.ref f_held_heights) = true)
    (a_heights_at : PySem.W.nsIn K mainGlobals "heights_at" = some (some (.ref f_heights_at))) (l_heights_at : K.lookup f_heights_at = some ⟨oc_heights_at, od_heights_at, .func (PySem.W.fnOf "heights_at" "heights_at" (defArgs s_heights_at) (defBody s_heights_at) (defScope s_heights_at) .none kV_heights_at dc_heights_at pm_heights_at an_heights_at cd_heights_at ct_heights_at), sl_heights_at⟩) (c_heights_at : PySem.W.codeIn K cd_heights_at "heights_at" = true) (k_heights_at : PySem.W.keepIn K (.ref f_heights_at) = true)
    (a_heights_behind : PySem.W.nsIn K mainGlobals "heights_behind" = some (some (.ref f_heights_behind))) (l_heights_behind : K.lookup f_heights_behind = some ⟨oc_heights_behind, od_heights_behind, .func (PySem.W.fnOf "heights_behind" "heights_behind" (defArgs s_heights_behind) (defBody s_heights_behind) (defScope s_heights_behind) .none kV_heights_behind dc_heights_behind pm_heights_behind an_heights_behind cd_heights_behind ct_heights_behind), sl_heights_behind⟩) (c_heights_behind : PySem.W.codeIn K cd_heights_behind "heights_behind" = true) (k_heights_behind : PySem.W.keepIn K (.ref f_heights_behind) = true)
    (a_stuck_heights : PySem.W.nsIn K mainGlobals "stuck_heights" = some (some (.ref f_stuck_heights))) (l_stuck_heights : K.lookup f_stuck_heights = some ⟨oc_stuck_heights, od_stuck_heights, .func (PySem.W.fnOf "stuck_heights" "stuck_heights" (defArgs s_stuck_heights) (defBody s_stuck_heights) (defScope s_stuck_heights) .none kV_stuck_heights dc_stuck_heights pm_stuck_heights an_stuck_heights cd_stuck_heights ct_stuck_heights), sl_stuck_heights⟩) (c_stuck_heights : PySem.W.codeIn K cd_stuck_heights "stuck_heights" = true) (k_stuck_heights : PySem.W.keepIn K (.ref f_stuck_heights) = true)
    (a_check_small : PySem.W.nsIn K mainGlobals "check_small" = some (some (.ref f_check_small))) (l_check_small : K.lookup f_check_small = some ⟨oc_check_small, od_check_small, .func (PySem.W.fnOf "check_small" "check_small" (defArgs s_check_small) (defBody s_check_small) (defScope s_check_small) .none kV_check_small dc_check_small pm_check_small an_check_small cd_check_small ct_check_small), sl_check_small⟩) (c_check_small : PySem.W.codeIn K cd_check_small "check_small" = true) (k_check_small : PySem.W.keepIn K (.ref f_check_small) = true)
    (a_check_height : PySem.W.nsIn K mainGlobals "check_height" = some (some (.ref f_check_height))) (l_check_height : K.lookup f_check_height = some ⟨oc_check_height, od_check_height, .func (PySem.W.fnOf "check_height" "check_height" (defArgs s_check_height) (defBody s_check_height) (defScope s_check_height) .none kV_check_height dc_check_height pm_check_height an_check_height cd_check_height ct_check_height), sl_check_height⟩) (c_check_height : PySem.W.codeIn K cd_check_height "check_height" = true) (k_check_height : PySem.W.keepIn K (.ref f_check_height) = true)
    (a_check_bars : PySem.W.nsIn K mainGlobals "check_bars" = some (some (.ref f_check_bars))) (l_check_bars : K.lookup f_check_bars = some ⟨oc_check_bars, od_check_bars, .func (PySem.W.fnOf "check_bars" "check_bars" (defArgs s_check_bars) (defBody s_check_bars) (defScope s_check_bars) .none kV_check_bars dc_check_bars pm_check_bars an_check_bars cd_check_bars ct_check_bars), sl_check_bars⟩) (c_check_bars : PySem.W.codeIn K cd_check_bars "check_bars" = true) (k_check_bars : PySem.W.keepIn K (.ref f_check_bars) = true)
    (a_pair_place : PySem.W.nsIn K mainGlobals "pair_place" = some (some (.ref f_pair_place))) (l_pair_place : K.lookup f_pair_place = some ⟨oc_pair_place, od_pair_place, .func (PySem.W.fnOf "pair_place" "pair_place" (defArgs s_pair_place) (defBody s_pair_place) (defScope s_pair_place) .none kV_pair_place dc_pair_place pm_pair_place an_pair_place cd_pair_place ct_pair_place), sl_pair_place⟩) (c_pair_place : PySem.W.codeIn K cd_pair_place "pair_place" = true) (k_pair_place : PySem.W.keepIn K (.ref f_pair_place) = true)
    (a_moved_place : PySem.W.nsIn K mainGlobals "moved_place" = some (some (.ref f_moved_place))) (l_moved_place : K.lookup f_moved_place = some ⟨oc_moved_place, od_moved_place, .func (PySem.W.fnOf "moved_place" "moved_place" (defArgs s_moved_place) (defBody s_moved_place) (defScope s_moved_place) .none kV_moved_place dc_moved_place pm_moved_place an_moved_place cd_moved_place ct_moved_place), sl_moved_place⟩) (c_moved_place : PySem.W.codeIn K cd_moved_place "moved_place" = true) (k_moved_place : PySem.W.keepIn K (.ref f_moved_place) = true)
    (a_single_moves : PySem.W.nsIn K mainGlobals "single_moves" = some (some (.ref f_single_moves))) (l_single_moves : K.lookup f_single_moves = some ⟨oc_single_moves, od_single_moves, .func (PySem.W.fnOf "single_moves" "single_moves" (defArgs s_single_moves) (defBody s_single_moves) (defScope s_single_moves) .none kV_single_moves dc_single_moves pm_single_moves an_single_moves cd_single_moves ct_single_moves), sl_single_moves⟩) (c_single_moves : PySem.W.codeIn K cd_single_moves "single_moves" = true) (k_single_moves : PySem.W.keepIn K (.ref f_single_moves) = true)
    (a_joining_trail : PySem.W.nsIn K mainGlobals "joining_trail" = some (some (.ref f_joining_trail))) (l_joining_trail : K.lookup f_joining_trail = some ⟨oc_joining_trail, od_joining_trail, .func (PySem.W.fnOf "joining_trail" "joining_trail" (defArgs s_joining_trail) (defBody s_joining_trail) (defScope s_joining_trail) .none kV_joining_trail dc_joining_trail pm_joining_trail an_joining_trail cd_joining_trail ct_joining_trail), sl_joining_trail⟩) (c_joining_trail : PySem.W.codeIn K cd_joining_trail "joining_trail" = true) (k_joining_trail : PySem.W.keepIn K (.ref f_joining_trail) = true)
    (a_trail_back : PySem.W.nsIn K mainGlobals "trail_back" = some (some (.ref f_trail_back))) (l_trail_back : K.lookup f_trail_back = some ⟨oc_trail_back, od_trail_back, .func (PySem.W.fnOf "trail_back" "trail_back" (defArgs s_trail_back) (defBody s_trail_back) (defScope s_trail_back) .none kV_trail_back dc_trail_back pm_trail_back an_trail_back cd_trail_back ct_trail_back), sl_trail_back⟩) (c_trail_back : PySem.W.codeIn K cd_trail_back "trail_back" = true) (k_trail_back : PySem.W.keepIn K (.ref f_trail_back) = true)
    (a_joining_count : PySem.W.nsIn K mainGlobals "joining_count" = some (some (.ref f_joining_count))) (l_joining_count : K.lookup f_joining_count = some ⟨oc_joining_count, od_joining_count, .func (PySem.W.fnOf "joining_count" "joining_count" (defArgs s_joining_count) (defBody s_joining_count) (defScope s_joining_count) .none kV_joining_count dc_joining_count pm_joining_count an_joining_count cd_joining_count ct_joining_count), sl_joining_count⟩) (c_joining_count : PySem.W.codeIn K cd_joining_count "joining_count" = true) (k_joining_count : PySem.W.keepIn K (.ref f_joining_count) = true)
    (a_joining_moves : PySem.W.nsIn K mainGlobals "joining_moves" = some (some (.ref f_joining_moves))) (l_joining_moves : K.lookup f_joining_moves = some ⟨oc_joining_moves, od_joining_moves, .func (PySem.W.fnOf "joining_moves" "joining_moves" (defArgs s_joining_moves) (defBody s_joining_moves) (defScope s_joining_moves) .none kV_joining_moves dc_joining_moves pm_joining_moves an_joining_moves cd_joining_moves ct_joining_moves), sl_joining_moves⟩) (c_joining_moves : PySem.W.codeIn K cd_joining_moves "joining_moves" = true) (k_joining_moves : PySem.W.keepIn K (.ref f_joining_moves) = true)
    (a_span_rise : PySem.W.nsIn K mainGlobals "span_rise" = some (some (.ref f_span_rise))) (l_span_rise : K.lookup f_span_rise = some ⟨oc_span_rise, od_span_rise, .func (PySem.W.fnOf "span_rise" "span_rise" (defArgs s_span_rise) (defBody s_span_rise) (defScope s_span_rise) .none kV_span_rise dc_span_rise pm_span_rise an_span_rise cd_span_rise ct_span_rise), sl_span_rise⟩) (c_span_rise : PySem.W.codeIn K cd_span_rise "span_rise" = true) (k_span_rise : PySem.W.keepIn K (.ref f_span_rise) = true)
    (a_pump_mean : PySem.W.nsIn K mainGlobals "pump_mean" = some (some (.ref f_pump_mean))) (l_pump_mean : K.lookup f_pump_mean = some ⟨oc_pump_mean, od_pump_mean, .func (PySem.W.fnOf "pump_mean" "pump_mean" (defArgs s_pump_mean) (defBody s_pump_mean) (defScope s_pump_mean) .none kV_pump_mean dc_pump_mean pm_pump_mean an_pump_mean cd_pump_mean ct_pump_mean), sl_pump_mean⟩) (c_pump_mean : PySem.W.codeIn K cd_pump_mean "pump_mean" = true) (k_pump_mean : PySem.W.keepIn K (.ref f_pump_mean) = true)
    (a_span_rows : PySem.W.nsIn K mainGlobals "span_rows" = some (some (.ref f_span_rows))) (l_span_rows : K.lookup f_span_rows = some ⟨oc_span_rows, od_span_rows, .func (PySem.W.fnOf "span_rows" "span_rows" (defArgs s_span_rows) (defBody s_span_rows) (defScope s_span_rows) .none kV_span_rows dc_span_rows pm_span_rows an_span_rows cd_span_rows ct_span_rows), sl_span_rows⟩) (c_span_rows : PySem.W.codeIn K cd_span_rows "span_rows" = true) (k_span_rows : PySem.W.keepIn K (.ref f_span_rows) = true)
    (a_check_looks : PySem.W.nsIn K mainGlobals "check_looks" = some (some (.ref f_check_looks))) (l_check_looks : K.lookup f_check_looks = some ⟨oc_check_looks, od_check_looks, .func (PySem.W.fnOf "check_looks" "check_looks" (defArgs s_check_looks) (defBody s_check_looks) (defScope s_check_looks) .none kV_check_looks dc_check_looks pm_check_looks an_check_looks cd_check_looks ct_check_looks), sl_check_looks⟩) (c_check_looks : PySem.W.codeIn K cd_check_looks "check_looks" = true) (k_check_looks : PySem.W.keepIn K (.ref f_check_looks) = true)
    (a_check_told : PySem.W.nsIn K mainGlobals "check_told" = some (some (.ref f_check_told))) (l_check_told : K.lookup f_check_told = some ⟨oc_check_told, od_check_told, .func (PySem.W.fnOf "check_told" "check_told" (defArgs s_check_told) (defBody s_check_told) (defScope s_check_told) .none kV_check_told dc_check_told pm_check_told an_check_told cd_check_told ct_check_told), sl_check_told⟩) (c_check_told : PySem.W.codeIn K cd_check_told "check_told" = true) (k_check_told : PySem.W.keepIn K (.ref f_check_told) = true)
    (a_all_bars : PySem.W.nsIn K mainGlobals "all_bars" = some (some (.ref f_all_bars))) (l_all_bars : K.lookup f_all_bars = some ⟨oc_all_bars, od_all_bars, .func (PySem.W.fnOf "all_bars" "all_bars" (defArgs s_all_bars) (defBody s_all_bars) (defScope s_all_bars) .none kV_all_bars dc_all_bars pm_all_bars an_all_bars cd_all_bars ct_all_bars), sl_all_bars⟩) (c_all_bars : PySem.W.codeIn K cd_all_bars "all_bars" = true) (k_all_bars : PySem.W.keepIn K (.ref f_all_bars) = true)
    (a_seen_bars : PySem.W.nsIn K mainGlobals "seen_bars" = some (some (.ref f_seen_bars))) (l_seen_bars : K.lookup f_seen_bars = some ⟨oc_seen_bars, od_seen_bars, .func (PySem.W.fnOf "seen_bars" "seen_bars" (defArgs s_seen_bars) (defBody s_seen_bars) (defScope s_seen_bars) .none kV_seen_bars dc_seen_bars pm_seen_bars an_seen_bars cd_seen_bars ct_seen_bars), sl_seen_bars⟩) (c_seen_bars : PySem.W.codeIn K cd_seen_bars "seen_bars" = true) (k_seen_bars : PySem.W.keepIn K (.ref f_seen_bars) = true)
    (a_clash_index : PySem.W.nsIn K mainGlobals "clash_index" = some (some (.ref f_clash_index))) (l_clash_index : K.lookup f_clash_index = some ⟨oc_clash_index, od_clash_index, .func (PySem.W.fnOf "clash_index" "clash_index" (defArgs s_clash_index) (defBody s_clash_index) (defScope s_clash_index) .none kV_clash_index dc_clash_index pm_clash_index an_clash_index cd_clash_index ct_clash_index), sl_clash_index⟩) (c_clash_index : PySem.W.codeIn K cd_clash_index "clash_index" = true) (k_clash_index : PySem.W.keepIn K (.ref f_clash_index) = true)
    (a__law_jar : PySem.W.nsIn K mainGlobals "_law_jar" = some (some (.ref f__law_jar))) (l__law_jar : K.lookup f__law_jar = some ⟨oc__law_jar, od__law_jar, .func (PySem.W.fnOf "_law_jar" "_law_jar" (defArgs s__law_jar) (defBody s__law_jar) (defScope s__law_jar) .none kV__law_jar dc__law_jar pm__law_jar an__law_jar cd__law_jar ct__law_jar), sl__law_jar⟩) (c__law_jar : PySem.W.codeIn K cd__law_jar "_law_jar" = true) (k__law_jar : PySem.W.keepIn K (.ref f__law_jar) = true)
    (a__law_pick : PySem.W.nsIn K mainGlobals "_law_pick" = some (some (.ref f__law_pick))) (l__law_pick : K.lookup f__law_pick = some ⟨oc__law_pick, od__law_pick, .func (PySem.W.fnOf "_law_pick" "_law_pick" (defArgs s__law_pick) (defBody s__law_pick) (defScope s__law_pick) .none kV__law_pick dc__law_pick pm__law_pick an__law_pick cd__law_pick ct__law_pick), sl__law_pick⟩) (c__law_pick : PySem.W.codeIn K cd__law_pick "_law_pick" = true) (k__law_pick : PySem.W.keepIn K (.ref f__law_pick) = true)
    (a__law_comb : PySem.W.nsIn K mainGlobals "_law_comb" = some (some (.ref f__law_comb))) (l__law_comb : K.lookup f__law_comb = some ⟨oc__law_comb, od__law_comb, .func (PySem.W.fnOf "_law_comb" "_law_comb" (defArgs s__law_comb) (defBody s__law_comb) (defScope s__law_comb) .none kV__law_comb dc__law_comb pm__law_comb an__law_comb cd__law_comb ct__law_comb), sl__law_comb⟩) (c__law_comb : PySem.W.codeIn K cd__law_comb "_law_comb" = true) (k__law_comb : PySem.W.keepIn K (.ref f__law_comb) = true)
    (a__law_pair : PySem.W.nsIn K mainGlobals "_law_pair" = some (some (.ref f__law_pair))) (l__law_pair : K.lookup f__law_pair = some ⟨oc__law_pair, od__law_pair, .func (PySem.W.fnOf "_law_pair" "_law_pair" (defArgs s__law_pair) (defBody s__law_pair) (defScope s__law_pair) .none kV__law_pair dc__law_pair pm__law_pair an__law_pair cd__law_pair ct__law_pair), sl__law_pair⟩) (c__law_pair : PySem.W.codeIn K cd__law_pair "_law_pair" = true) (k__law_pair : PySem.W.keepIn K (.ref f__law_pair) = true)
    (a__law_under : PySem.W.nsIn K mainGlobals "_law_under" = some (some (.ref f__law_under))) (l__law_under : K.lookup f__law_under = some ⟨oc__law_under, od__law_under, .func (PySem.W.fnOf "_law_under" "_law_under" (defArgs s__law_under) (defBody s__law_under) (defScope s__law_under) .none kV__law_under dc__law_under pm__law_under an__law_under cd__law_under ct__law_under), sl__law_under⟩) (c__law_under : PySem.W.codeIn K cd__law_under "_law_under" = true) (k__law_under : PySem.W.keepIn K (.ref f__law_under) = true)
    (a__law_stand : PySem.W.nsIn K mainGlobals "_law_stand" = some (some (.ref f__law_stand))) (l__law_stand : K.lookup f__law_stand = some ⟨oc__law_stand, od__law_stand, .func (PySem.W.fnOf "_law_stand" "_law_stand" (defArgs s__law_stand) (defBody s__law_stand) (defScope s__law_stand) .none kV__law_stand dc__law_stand pm__law_stand an__law_stand cd__law_stand ct__law_stand), sl__law_stand⟩) (c__law_stand : PySem.W.codeIn K cd__law_stand "_law_stand" = true) (k__law_stand : PySem.W.keepIn K (.ref f__law_stand) = true)
    (a__law_steps : PySem.W.nsIn K mainGlobals "_law_steps" = some (some (.ref f__law_steps))) (l__law_steps : K.lookup f__law_steps = some ⟨oc__law_steps, od__law_steps, .func (PySem.W.fnOf "_law_steps" "_law_steps" (defArgs s__law_steps) (defBody s__law_steps) (defScope s__law_steps) .none kV__law_steps dc__law_steps pm__law_steps an__law_steps cd__law_steps ct__law_steps), sl__law_steps⟩) (c__law_steps : PySem.W.codeIn K cd__law_steps "_law_steps" = true) (k__law_steps : PySem.W.keepIn K (.ref f__law_steps) = true)
    (a__law_round : PySem.W.nsIn K mainGlobals "_law_round" = some (some (.ref f__law_round))) (l__law_round : K.lookup f__law_round = some ⟨oc__law_round, od__law_round, .func (PySem.W.fnOf "_law_round" "_law_round" (defArgs s__law_round) (defBody s__law_round) (defScope s__law_round) .none kV__law_round dc__law_round pm__law_round an__law_round cd__law_round ct__law_round), sl__law_round⟩) (c__law_round : PySem.W.codeIn K cd__law_round "_law_round" = true) (k__law_round : PySem.W.keepIn K (.ref f__law_round) = true)
    (a__law_shifted : PySem.W.nsIn K mainGlobals "_law_shifted" = some (some (.ref f__law_shifted))) (l__law_shifted : K.lookup f__law_shifted = some ⟨oc__law_shifted, od__law_shifted, .func (PySem.W.fnOf "_law_shifted" "_law_shifted" (defArgs s__law_shifted) (defBody s__law_shifted) (defScope s__law_shifted) .none kV__law_shifted dc__law_shifted pm__law_shifted an__law_shifted cd__law_shifted ct__law_shifted), sl__law_shifted⟩) (c__law_shifted : PySem.W.codeIn K cd__law_shifted "_law_shifted" = true) (k__law_shifted : PySem.W.keepIn K (.ref f__law_shifted) = true)
    (a__law_times : PySem.W.nsIn K mainGlobals "_law_times" = some (some (.ref f__law_times))) (l__law_times : K.lookup f__law_times = some ⟨oc__law_times, od__law_times, .func (PySem.W.fnOf "_law_times" "_law_times" (defArgs s__law_times) (defBody s__law_times) (defScope s__law_times) .none kV__law_times dc__law_times pm__law_times an__law_times cd__law_times ct__law_times), sl__law_times⟩) (c__law_times : PySem.W.codeIn K cd__law_times "_law_times" = true) (k__law_times : PySem.W.keepIn K (.ref f__law_times) = true)
    (a__law_shift_right : PySem.W.nsIn K mainGlobals "_law_shift_right" = some (some (.ref f__law_shift_right))) (l__law_shift_right : K.lookup f__law_shift_right = some ⟨oc__law_shift_right, od__law_shift_right, .func (PySem.W.fnOf "_law_shift_right" "_law_shift_right" (defArgs s__law_shift_right) (defBody s__law_shift_right) (defScope s__law_shift_right) .none kV__law_shift_right dc__law_shift_right pm__law_shift_right an__law_shift_right cd__law_shift_right ct__law_shift_right), sl__law_shift_right⟩) (c__law_shift_right : PySem.W.codeIn K cd__law_shift_right "_law_shift_right" = true) (k__law_shift_right : PySem.W.keepIn K (.ref f__law_shift_right) = true)
    (a__law_times_right : PySem.W.nsIn K mainGlobals "_law_times_right" = some (some (.ref f__law_times_right))) (l__law_times_right : K.lookup f__law_times_right = some ⟨oc__law_times_right, od__law_times_right, .func (PySem.W.fnOf "_law_times_right" "_law_times_right" (defArgs s__law_times_right) (defBody s__law_times_right) (defScope s__law_times_right) .none kV__law_times_right dc__law_times_right pm__law_times_right an__law_times_right cd__law_times_right ct__law_times_right), sl__law_times_right⟩) (c__law_times_right : PySem.W.codeIn K cd__law_times_right "_law_times_right" = true) (k__law_times_right : PySem.W.keepIn K (.ref f__law_times_right) = true)
    (a_law : PySem.W.nsIn K mainGlobals "law" = some (some (.ref f_law))) (l_law : K.lookup f_law = some ⟨oc_law, od_law, .func (PySem.W.fnOf "law" "law" (defArgs s_law) (defBody s_law) (defScope s_law) .none kV_law dc_law pm_law an_law cd_law ct_law), sl_law⟩) (c_law : PySem.W.codeIn K cd_law "law" = true) (k_law : PySem.W.keepIn K (.ref f_law) = true)
    (z_abs : PySem.W.nsIn K mainGlobals "abs" = some none) (z_all : PySem.W.nsIn K mainGlobals "all" = some none) (z_bool : PySem.W.nsIn K mainGlobals "bool" = some none) (z_divmod : PySem.W.nsIn K mainGlobals "divmod" = some none) (z_enumerate : PySem.W.nsIn K mainGlobals "enumerate" = some none) (z_int : PySem.W.nsIn K mainGlobals "int" = some none) (z_isinstance : PySem.W.nsIn K mainGlobals "isinstance" = some none) (z_len : PySem.W.nsIn K mainGlobals "len" = some none) (z_list : PySem.W.nsIn K mainGlobals "list" = some none) (z_max : PySem.W.nsIn K mainGlobals "max" = some none) (z_min : PySem.W.nsIn K mainGlobals "min" = some none) (z_range : PySem.W.nsIn K mainGlobals "range" = some none) (z_sorted : PySem.W.nsIn K mainGlobals "sorted" = some none) (z_sum : PySem.W.nsIn K mainGlobals "sum" = some none) (z_tuple : PySem.W.nsIn K mainGlobals "tuple" = some none) (z_zip : PySem.W.nsIn K mainGlobals "zip" = some none) {t_MOST_COUNT : PySem.Tok} (q_MOST_COUNT : PySem.W.nsIn K mainGlobals "MOST_COUNT" = some (some (.int 200 t_MOST_COUNT))) {t_MOST_JOINING_PITCH : PySem.Tok} (q_MOST_JOINING_PITCH : PySem.W.nsIn K mainGlobals "MOST_JOINING_PITCH" = some (some (.int 8 t_MOST_JOINING_PITCH))) {t_MOST_LOOKS : PySem.Tok} (q_MOST_LOOKS : PySem.W.nsIn K mainGlobals "MOST_LOOKS" = some (some (.int 12 t_MOST_LOOKS))) {t_MOST_MOVES : PySem.Tok} (q_MOST_MOVES : PySem.W.nsIn K mainGlobals "MOST_MOVES" = some (some (.int 40 t_MOST_MOVES))) {t_MOST_PITCH : PySem.Tok} (q_MOST_PITCH : PySem.W.nsIn K mainGlobals "MOST_PITCH" = some (some (.int 24 t_MOST_PITCH))) {t_MOST_REACH : PySem.Tok} (q_MOST_REACH : PySem.W.nsIn K mainGlobals "MOST_REACH" = some (some (.int 24 t_MOST_REACH))) (m_gcd : PySem.W.nsIn K mainGlobals "gcd" = some (some (.builtin "math.gcd"))) (m_lcm : PySem.W.nsIn K mainGlobals "lcm" = some (some (.builtin "math.lcm"))) :
    ∃ fd : FuncData, (∀ (s : Shared) (v : Value), BindsTo s fd ⟨[v], []⟩ [("script", v)]) ∧ ∀ base : Heap, K.In base → base.Ns mainGlobals mg → FG l.prog w K mg base (10 + 1) fa fd ["script"] (spLaw K) := by
  have e := hfa.symm.trans (PySem.W.mg_of X G a_law)
  cases e
  have T : Tx K mg := ⟨PySem.W.mg_none_of X G z_abs, PySem.W.mg_none_of X G z_all, PySem.W.mg_none_of X G z_bool, PySem.W.mg_none_of X G z_divmod, PySem.W.mg_none_of X G z_enumerate, PySem.W.mg_none_of X G z_int, PySem.W.mg_none_of X G z_isinstance, PySem.W.mg_none_of X G z_len, PySem.W.mg_none_of X G z_list, PySem.W.mg_none_of X G z_max, PySem.W.mg_none_of X G z_min, PySem.W.mg_none_of X G z_range, PySem.W.mg_none_of X G z_sorted, PySem.W.mg_none_of X G z_sum, PySem.W.mg_none_of X G z_tuple, PySem.W.mg_none_of X G z_zip, ⟨_, PySem.W.mg_of X G q_MOST_COUNT⟩, ⟨_, PySem.W.mg_of X G q_MOST_JOINING_PITCH⟩, ⟨_, PySem.W.mg_of X G q_MOST_LOOKS⟩, ⟨_, PySem.W.mg_of X G q_MOST_MOVES⟩, ⟨_, PySem.W.mg_of X G q_MOST_PITCH⟩, ⟨_, PySem.W.mg_of X G q_MOST_REACH⟩, PySem.W.mg_of X G m_gcd, PySem.W.mg_of X G m_lcm⟩
  have H_is_whole := here_mk (st := s_is_whole) (ps := ["value"]) X G a_is_whole l_is_whole c_is_whole k_is_whole fun F => F.binds fun _ _ _ _ _ _ us hl => match us, hl with | [_], _ => rfl
  have H_is_pair := here_mk (st := s_is_pair) (ps := ["value"]) X G a_is_pair l_is_pair c_is_pair k_is_pair fun F => F.binds fun _ _ _ _ _ _ us hl => match us, hl with | [_], _ => rfl
  have H_is_whole_pair := here_mk (st := s_is_whole_pair) (ps := ["value"]) X G a_is_whole_pair l_is_whole_pair c_is_whole_pair k_is_whole_pair fun F => F.binds fun _ _ _ _ _ _ us hl => match us, hl with | [_], _ => rfl
  have H_check_whole := here_mk (st := s_check_whole) (ps := ["value", "name"]) X G a_check_whole l_check_whole c_check_whole k_check_whole fun F => F.binds fun _ _ _ _ _ _ us hl => match us, hl with | [_, _], _ => rfl
  have H_check_least := here_mk (st := s_check_least) (ps := ["value", "least", "name"]) X G a_check_least l_check_least c_check_least k_check_least fun F => F.binds fun _ _ _ _ _ _ us hl => match us, hl with | [_, _, _], _ => rfl
  have H_check_between := here_mk (st := s_check_between) (ps := ["value", "least", "greatest", "name"]) X G a_check_between l_check_between c_check_between k_check_between fun F => F.binds fun _ _ _ _ _ _ us hl => match us, hl with | [_, _, _, _], _ => rfl
  have H_catches := here_mk (st := s_catches) (ps := ["comb", "number"]) X G a_catches l_catches c_catches k_catches fun F => F.binds fun _ _ _ _ _ _ us hl => match us, hl with | [_, _], _ => rfl
  have H_floor_catch := here_mk (st := s_floor_catch) (ps := ["comb", "number"]) X G a_floor_catch l_floor_catch c_floor_catch k_floor_catch fun F => F.binds fun _ _ _ _ _ _ us hl => match us, hl with | [_, _], _ => rfl
  have H_copied_comb := here_mk (st := s_copied_comb) (ps := ["comb"]) X G a_copied_comb l_copied_comb c_copied_comb k_copied_comb fun F => F.binds fun _ _ _ _ _ _ us hl => match us, hl with | [_], _ => rfl
  have H_common_pitch := here_mk (st := s_common_pitch) (ps := ["device"]) X G a_common_pitch l_common_pitch c_common_pitch k_common_pitch fun F => F.binds fun _ _ _ _ _ _ us hl => match us, hl with | [_], _ => rfl
  have H_is_pitch := here_mk (st := s_is_pitch) (ps := ["value"]) X G a_is_pitch l_is_pitch c_is_pitch k_is_pitch fun F => F.binds fun _ _ _ _ _ _ us hl => match us, hl with | [_], _ => rfl
  have H_are_teeth := here_mk (st := s_are_teeth) (ps := ["value", "pitch"]) X G a_are_teeth l_are_teeth c_are_teeth k_are_teeth fun F => F.binds fun _ _ _ _ _ _ us hl => match us, hl with | [_, _], _ => rfl
  have H_check_comb := here_mk (st := s_check_comb) (ps := ["comb"]) X G a_check_comb l_check_comb c_check_comb k_check_comb fun F => F.binds fun _ _ _ _ _ _ us hl => match us, hl with | [_], _ => rfl
  have H_check_device := here_mk (st := s_check_device) (ps := ["device"]) X G a_check_device l_check_device c_check_device k_check_device fun F => F.binds fun _ _ _ _ _ _ us hl => match us, hl with | [_], _ => rfl
  have H_is_comb := here_mk (st := s_is_comb) (ps := ["value"]) X G a_is_comb l_is_comb c_is_comb k_is_comb fun F => F.binds fun _ _ _ _ _ _ us hl => match us, hl with | [_], _ => rfl
  have H_plain_comb := here_mk (st := s_plain_comb) (ps := ["comb"]) X G a_plain_comb l_plain_comb c_plain_comb k_plain_comb fun F => F.binds fun _ _ _ _ _ _ us hl => match us, hl with | [_], _ => rfl
  have H_teeth_under := here_mk (st := s_teeth_under) (ps := ["teeth", "part"]) X G a_teeth_under l_teeth_under c_teeth_under k_teeth_under fun F => F.binds fun _ _ _ _ _ _ us hl => match us, hl with | [_, _], _ => rfl
  have H_repeated_teeth := here_mk (st := s_repeated_teeth) (ps := ["teeth", "part", "pitch"]) X G a_repeated_teeth l_repeated_teeth c_repeated_teeth k_repeated_teeth fun F => F.binds fun _ _ _ _ _ _ us hl => match us, hl with | [_, _, _], _ => rfl
  have H_is_held := here_mk (st := s_is_held) (ps := ["device", "height", "hand"]) X G a_is_held l_is_held c_is_held k_is_held fun F => F.binds fun _ _ _ _ _ _ us hl => match us, hl with | [_, _, _], _ => rfl
  have H_after_move := here_mk (st := s_after_move) (ps := ["device", "state", "move"]) X G a_after_move l_after_move c_after_move k_after_move fun F => F.binds fun _ _ _ _ _ _ us hl => match us, hl with | [_, _, _], _ => rfl
  have H_fits_device := here_mk (st := s_fits_device) (ps := ["device", "value"]) X G a_fits_device l_fits_device c_fits_device k_fits_device fun F => F.binds fun _ _ _ _ _ _ us hl => match us, hl with | [_, _], _ => rfl
  have H_check_state := here_mk (st := s_check_state) (ps := ["device", "state"]) X G a_check_state l_check_state c_check_state k_check_state fun F => F.binds fun _ _ _ _ _ _ us hl => match us, hl with | [_, _], _ => rfl
  have H_check_moves := here_mk (st := s_check_moves) (ps := ["moves"]) X G a_check_moves l_check_moves c_check_moves k_check_moves fun F => F.binds fun _ _ _ _ _ _ us hl => match us, hl with | [_], _ => rfl
  have H_check_moving := here_mk (st := s_check_moving) (ps := ["device", "state", "moves"]) X G a_check_moving l_check_moving c_check_moving k_check_moving fun F => F.binds fun _ _ _ _ _ _ us hl => match us, hl with | [_, _, _], _ => rfl
  have H_moved_state := here_mk (st := s_moved_state) (ps := ["device", "state", "moves"]) X G a_moved_state l_moved_state c_moved_state k_moved_state fun F => F.binds fun _ _ _ _ _ _ us hl => match us, hl with | [_, _, _], _ => rfl
  have H_comb_slacks := here_mk (st := s_comb_slacks) (ps := ["comb"]) X G a_comb_slacks l_comb_slacks c_comb_slacks k_comb_slacks fun F => F.binds fun _ _ _ _ _ _ us hl => match us, hl with | [_], _ => rfl
  have H_device_slacks := here_mk (st := s_device_slacks) (ps := ["device"]) X G a_device_slacks l_device_slacks c_device_slacks k_device_slacks fun F => F.binds fun _ _ _ _ _ _ us hl => match us, hl with | [_], _ => rfl
  have H_moved_bar := here_mk (st := s_moved_bar) (ps := ["slacks", "height", "lift", "moves"]) X G a_moved_bar l_moved_bar c_moved_bar k_moved_bar fun F => F.binds fun _ _ _ _ _ _ us hl => match us, hl with | [_, _, _, _], _ => rfl
  have H_repeated_heights := here_mk (st := s_repeated_heights) (ps := ["slacks", "state", "moves"]) X G a_repeated_heights l_repeated_heights c_repeated_heights k_repeated_heights fun F => F.binds fun _ _ _ _ _ _ us hl => match us, hl with | [_, _, _], _ => rfl
  have H_cycle_rise := here_mk (st := s_cycle_rise) (ps := ["heights", "ahead"]) X G a_cycle_rise l_cycle_rise c_cycle_rise k_cycle_rise fun F => F.binds fun _ _ _ _ _ _ us hl => match us, hl with | [_, _], _ => rfl
  have H_far_height := here_mk (st := s_far_height) (ps := ["heights", "ahead", "times"]) X G a_far_height l_far_height c_far_height k_far_height fun F => F.binds fun _ _ _ _ _ _ us hl => match us, hl with | [_, _, _], _ => rfl
  have H_needed_cycles := here_mk (st := s_needed_cycles) (ps := ["reached", "height", "rise"]) X G a_needed_cycles l_needed_cycles c_needed_cycles k_needed_cycles fun F => F.binds fun _ _ _ _ _ _ us hl => match us, hl with | [_, _, _], _ => rfl
  have H_far_state := here_mk (st := s_far_state) (ps := ["device", "state", "moves", "times"]) X G a_far_state l_far_state c_far_state k_far_state fun F => F.binds fun _ _ _ _ _ _ us hl => match us, hl with | [_, _, _, _], _ => rfl
  have H_first_time := here_mk (st := s_first_time) (ps := ["device", "state", "moves", "height"]) X G a_first_time l_first_time c_first_time k_first_time fun F => F.binds fun _ _ _ _ _ _ us hl => match us, hl with | [_, _, _, _], _ => rfl
  have H_round_cycle := here_mk (st := s_round_cycle) (ps := ["device", "state", "moves"]) X G a_round_cycle l_round_cycle c_round_cycle k_round_cycle fun F => F.binds fun _ _ _ _ _ _ us hl => match us, hl with | [_, _, _], _ => rfl
  have H_check_begun := here_mk (st := s_check_begun) (ps := ["device", "state"]) X G a_check_begun l_check_begun c_check_begun k_check_begun fun F => F.binds fun _ _ _ _ _ _ us hl => match us, hl with | [_, _], _ => rfl
  have H_check_both := here_mk (st := s_check_both) (ps := ["device", "state", "second", "start"]) X G a_check_both l_check_both c_check_both k_check_both fun F => F.binds fun _ _ _ _ _ _ us hl => match us, hl with | [_, _, _, _], _ => rfl
  have H_shifted_comb := here_mk (st := s_shifted_comb) (ps := ["comb", "distance"]) X G a_shifted_comb l_shifted_comb c_shifted_comb k_shifted_comb fun F => F.binds fun _ _ _ _ _ _ us hl => match us, hl with | [_, _], _ => rfl
  have H_shifted_device := here_mk (st := s_shifted_device) (ps := ["device", "state"]) X G a_shifted_device l_shifted_device c_shifted_device k_shifted_device fun F => F.binds fun _ _ _ _ _ _ us hl => match us, hl with | [_, _], _ => rfl
  have H_are_alike := here_mk (st := s_are_alike) (ps := ["device", "state", "second", "start"]) X G a_are_alike l_are_alike c_are_alike k_are_alike fun F => F.binds fun _ _ _ _ _ _ us hl => match us, hl with | [_, _, _, _], _ => rfl
  have H_alike_state := here_mk (st := s_alike_state) (ps := ["device", "state"]) X G a_alike_state l_alike_state c_alike_state k_alike_state fun F => F.binds fun _ _ _ _ _ _ us hl => match us, hl with | [_, _], _ => rfl
  have H_check_reach := here_mk (st := s_check_reach) (ps := ["device", "state", "reach"]) X G a_check_reach l_check_reach c_check_reach k_check_reach fun F => F.binds fun _ _ _ _ _ _ us hl => match us, hl with | [_, _, _], _ => rfl
  have H_check_within := here_mk (st := s_check_within) (ps := ["state", "reach"]) X G a_check_within l_check_within c_check_within k_check_within fun F => F.binds fun _ _ _ _ _ _ us hl => match us, hl with | [_, _], _ => rfl
  have H_heights_from := here_mk (st := s_heights_from) (ps := ["slacks", "height", "hand", "reach"]) X G a_heights_from l_heights_from c_heights_from k_heights_from fun F => F.binds fun _ _ _ _ _ _ us hl => match us, hl with | [_, _, _, _], _ => rfl
  have H_heights_behind_more := here_mk (st := s_heights_behind_more) (ps := ["slacks", "heights"]) X G a_heights_behind_more l_heights_behind_more c_heights_behind_more k_heights_behind_more fun F => F.binds fun _ _ _ _ _ _ us hl => match us, hl with | [_, _], _ => rfl
  have H_best_heights := here_mk (st := s_best_heights) (ps := ["device", "state", "reach", "count"]) X G a_best_heights l_best_heights c_best_heights k_best_heights fun F => F.binds fun _ _ _ _ _ _ us hl => match us, hl with | [_, _, _, _], _ => rfl
  have H_best_height := here_mk (st := s_best_height) (ps := ["device", "state", "reach", "count"]) X G a_best_height l_best_height c_best_height k_best_height fun F => F.binds fun _ _ _ _ _ _ us hl => match us, hl with | [_, _, _, _], _ => rfl
  have H_check_hand := here_mk (st := s_check_hand) (ps := ["device", "hand"]) X G a_check_hand l_check_hand c_check_hand k_check_hand fun F => F.binds fun _ _ _ _ _ _ us hl => match us, hl with | [_, _], _ => rfl
  have H_check_round := here_mk (st := s_check_round) (ps := ["moves"]) X G a_check_round l_check_round c_check_round k_check_round fun F => F.binds fun _ _ _ _ _ _ us hl => match us, hl with | [_], _ => rfl
  have H_check_rounds := here_mk (st := s_check_rounds) (ps := ["device", "hand", "moves"]) X G a_check_rounds l_check_rounds c_check_rounds k_check_rounds fun F => F.binds fun _ _ _ _ _ _ us hl => match us, hl with | [_, _, _], _ => rfl
  have H_mean_rise := here_mk (st := s_mean_rise) (ps := ["device", "hand", "moves"]) X G a_mean_rise l_mean_rise c_mean_rise k_mean_rise fun F => F.binds fun _ _ _ _ _ _ us hl => match us, hl with | [_, _, _], _ => rfl
  have H_slack_mean := here_mk (st := s_slack_mean) (ps := ["slacks", "hand", "moves"]) X G a_slack_mean l_slack_mean c_slack_mean k_slack_mean fun F => F.binds fun _ _ _ _ _ _ us hl => match us, hl with | [_, _, _], _ => rfl
  have H_held_heights := here_mk (st := s_held_heights) (ps := ["device", "hand"]) X G a_held_heights l_held_heights c_held_heights k_held_heights fun F => F.binds fun _ _ _ _ _ _ us hl => match us, hl with | [_, _], _ => rfl
  have H_heights_at := here_mk (st := s_heights_at) (ps := ["device", "hand"]) X G a_heights_at l_heights_at c_heights_at k_heights_at fun F => F.binds fun _ _ _ _ _ _ us hl => match us, hl with | [_, _], _ => rfl
  have H_heights_behind := here_mk (st := s_heights_behind) (ps := ["device", "hand", "moves"]) X G a_heights_behind l_heights_behind c_heights_behind k_heights_behind fun F => F.binds fun _ _ _ _ _ _ us hl => match us, hl with | [_, _, _], _ => rfl
  have H_stuck_heights := here_mk (st := s_stuck_heights) (ps := ["device", "hand", "moves"]) X G a_stuck_heights l_stuck_heights c_stuck_heights k_stuck_heights fun F => F.binds fun _ _ _ _ _ _ us hl => match us, hl with | [_, _, _], _ => rfl
  have H_check_small := here_mk (st := s_check_small) (ps := ["device"]) X G a_check_small l_check_small c_check_small k_check_small fun F => F.binds fun _ _ _ _ _ _ us hl => match us, hl with | [_], _ => rfl
  have H_check_height := here_mk (st := s_check_height) (ps := ["device", "hand", "height", "name"]) X G a_check_height l_check_height c_check_height k_check_height fun F => F.binds fun _ _ _ _ _ _ us hl => match us, hl with | [_, _, _, _], _ => rfl
  have H_check_bars := here_mk (st := s_check_bars) (ps := ["device", "hand", "one", "other"]) X G a_check_bars l_check_bars c_check_bars k_check_bars fun F => F.binds fun _ _ _ _ _ _ us hl => match us, hl with | [_, _, _, _], _ => rfl
  have H_pair_place := here_mk (st := s_pair_place) (ps := ["slacks", "hand", "one", "other"]) X G a_pair_place l_pair_place c_pair_place k_pair_place fun F => F.binds fun _ _ _ _ _ _ us hl => match us, hl with | [_, _, _, _], _ => rfl
  have H_moved_place := here_mk (st := s_moved_place) (ps := ["slacks", "place", "moves"]) X G a_moved_place l_moved_place c_moved_place k_moved_place fun F => F.binds fun _ _ _ _ _ _ us hl => match us, hl with | [_, _, _], _ => rfl
  have H_single_moves := here_mk (st := s_single_moves) (ps := ["slacks"]) X G a_single_moves l_single_moves c_single_moves k_single_moves fun F => F.binds fun _ _ _ _ _ _ us hl => match us, hl with | [_], _ => rfl
  have H_joining_trail := here_mk (st := s_joining_trail) (ps := ["slacks", "first"]) X G a_joining_trail l_joining_trail c_joining_trail k_joining_trail fun F => F.binds fun _ _ _ _ _ _ us hl => match us, hl with | [_, _], _ => rfl
  have H_trail_back := here_mk (st := s_trail_back) (ps := ["before", "place"]) X G a_trail_back l_trail_back c_trail_back k_trail_back fun F => F.binds fun _ _ _ _ _ _ us hl => match us, hl with | [_, _], _ => rfl
  have H_joining_count := here_mk (st := s_joining_count) (ps := ["device", "hand", "one", "other"]) X G a_joining_count l_joining_count c_joining_count k_joining_count fun F => F.binds fun _ _ _ _ _ _ us hl => match us, hl with | [_, _, _, _], _ => rfl
  have H_joining_moves := here_mk (st := s_joining_moves) (ps := ["device", "hand", "one", "other"]) X G a_joining_moves l_joining_moves c_joining_moves k_joining_moves fun F => F.binds fun _ _ _ _ _ _ us hl => match us, hl with | [_, _, _, _], _ => rfl
  have H_span_rise := here_mk (st := s_span_rise) (ps := ["device", "hand", "span"]) X G a_span_rise l_span_rise c_span_rise k_span_rise fun F => F.binds fun _ _ _ _ _ _ us hl => match us, hl with | [_, _, _], _ => rfl
  have H_pump_mean := here_mk (st := s_pump_mean) (ps := ["slacks", "hand", "span"]) X G a_pump_mean l_pump_mean c_pump_mean k_pump_mean fun F => F.binds fun _ _ _ _ _ _ us hl => match us, hl with | [_, _, _], _ => rfl
  have H_span_rows := here_mk (st := s_span_rows) (ps := ["device", "hand"]) X G a_span_rows l_span_rows c_span_rows k_span_rows fun F => F.binds fun _ _ _ _ _ _ us hl => match us, hl with | [_, _], _ => rfl
  have H_check_looks := here_mk (st := s_check_looks) (ps := ["looks"]) X G a_check_looks l_check_looks c_check_looks k_check_looks fun F => F.binds fun _ _ _ _ _ _ us hl => match us, hl with | [_], _ => rfl
  have H_check_told := here_mk (st := s_check_told) (ps := ["device", "looks"]) X G a_check_told l_check_told c_check_told k_check_told fun F => F.binds fun _ _ _ _ _ _ us hl => match us, hl with | [_, _], _ => rfl
  have H_all_bars := here_mk (st := s_all_bars) (ps := ["slacks"]) X G a_all_bars l_all_bars c_all_bars k_all_bars fun F => F.binds fun _ _ _ _ _ _ us hl => match us, hl with | [_], _ => rfl
  have H_seen_bars := here_mk (st := s_seen_bars) (ps := ["slacks", "bars", "look"]) X G a_seen_bars l_seen_bars c_seen_bars k_seen_bars fun F => F.binds fun _ _ _ _ _ _ us hl => match us, hl with | [_, _, _], _ => rfl
  have H_clash_index := here_mk (st := s_clash_index) (ps := ["device", "looks"]) X G a_clash_index l_clash_index c_clash_index k_clash_index fun F => F.binds fun _ _ _ _ _ _ us hl => match us, hl with | [_, _], _ => rfl
  have H__law_jar := here_mk (st := s__law_jar) (ps := ["script", "at"]) X G a__law_jar l__law_jar c__law_jar k__law_jar fun F => F.binds fun _ _ _ _ _ _ us hl => match us, hl with | [_, _], _ => rfl
  have H__law_pick := here_mk (st := s__law_pick) (ps := ["jar", "bound"]) X G a__law_pick l__law_pick c__law_pick k__law_pick fun F => F.binds fun _ _ _ _ _ _ us hl => match us, hl with | [_, _], _ => rfl
  have H__law_comb := here_mk (st := s__law_comb) (ps := ["jar", "most"]) X G a__law_comb l__law_comb c__law_comb k__law_comb fun F => F.binds fun _ _ _ _ _ _ us hl => match us, hl with | [_, _], _ => rfl
  have H__law_pair := here_mk (st := s__law_pair) (ps := ["jar", "most"]) X G a__law_pair l__law_pair c__law_pair k__law_pair fun F => F.binds fun _ _ _ _ _ _ us hl => match us, hl with | [_, _], _ => rfl
  have H__law_under := here_mk (st := s__law_under) (ps := ["comb_here", "spot"]) X G a__law_under l__law_under c__law_under k__law_under fun F => F.binds fun _ _ _ _ _ _ us hl => match us, hl with | [_, _], _ => rfl
  have H__law_stand := here_mk (st := s__law_stand) (ps := ["jar", "pair", "far"]) X G a__law_stand l__law_stand c__law_stand k__law_stand fun F => F.binds fun _ _ _ _ _ _ us hl => match us, hl with | [_, _, _], _ => rfl
  have H__law_steps := here_mk (st := s__law_steps) (ps := ["jar", "many", "far"]) X G a__law_steps l__law_steps c__law_steps k__law_steps fun F => F.binds fun _ _ _ _ _ _ us hl => match us, hl with | [_, _, _], _ => rfl
  have H__law_round := here_mk (st := s__law_round) (ps := ["jar", "many", "far"]) X G a__law_round l__law_round c__law_round k__law_round fun F => F.binds fun _ _ _ _ _ _ us hl => match us, hl with | [_, _, _], _ => rfl
  have H__law_shifted := here_mk (st := s__law_shifted) (ps := ["one", "by"]) X G a__law_shifted l__law_shifted c__law_shifted k__law_shifted fun F => F.binds fun _ _ _ _ _ _ us hl => match us, hl with | [_, _], _ => rfl
  have H__law_times := here_mk (st := s__law_times) (ps := ["one", "many"]) X G a__law_times l__law_times c__law_times k__law_times fun F => F.binds fun _ _ _ _ _ _ us hl => match us, hl with | [_, _], _ => rfl
  have H__law_shift_right := here_mk (st := s__law_shift_right) (ps := ["jar", "pair", "stand", "steps"]) X G a__law_shift_right l__law_shift_right c__law_shift_right k__law_shift_right fun F => F.binds fun _ _ _ _ _ _ us hl => match us, hl with | [_, _, _, _], _ => rfl
  have H__law_times_right := here_mk (st := s__law_times_right) (ps := ["jar", "pair", "stand", "steps", "many"]) X G a__law_times_right l__law_times_right c__law_times_right k__law_times_right fun F => F.binds fun _ _ _ _ _ _ us hl => match us, hl with | [_, _, _, _, _], _ => rfl
  have H_law := here_mk (st := s_law) (ps := ["script"]) X G a_law l_law c_law k_law fun F => F.binds fun _ _ _ _ _ _ us hl => match us, hl with | [_], _ => rfl
  refine ⟨PySem.W.fnOf "law" "law" (defArgs s_law) (defBody s_law) (defScope s_law) .none kV_law dc_law pm_law an_law cd_law ct_law, fun s v => .of_eq rfl, fun base _ _ => ?_⟩
  have D_is_whole := ok_is_whole (P := l.prog) (w := w) (base := base) T  H_is_whole
  have D_is_pair := ok_is_pair (P := l.prog) (w := w) (base := base) T  H_is_pair
  have D_catches := ok_catches (P := l.prog) (w := w) (base := base) T  H_catches
  have D_floor_catch := ok_floor_catch (P := l.prog) (w := w) (base := base) T  H_floor_catch
  have D_copied_comb := ok_copied_comb (P := l.prog) (w := w) (base := base) T  H_copied_comb
  have D_common_pitch := ok_common_pitch (P := l.prog) (w := w) (base := base) T  H_common_pitch
  have D_teeth_under := ok_teeth_under (P := l.prog) (w := w) (base := base) T  H_teeth_under
  have D_moved_bar := ok_moved_bar (P := l.prog) (w := w) (base := base) T  H_moved_bar
  have D_cycle_rise := ok_cycle_rise (P := l.prog) (w := w) (base := base) T  H_cycle_rise
  have D_needed_cycles := ok_needed_cycles (P := l.prog) (w := w) (base := base) T  H_needed_cycles
  have D_check_within := ok_check_within (P := l.prog) (w := w) (base := base) T  H_check_within
  have D_heights_from := ok_heights_from (P := l.prog) (w := w) (base := base) T  H_heights_from
  have D_check_round := ok_check_round (P := l.prog) (w := w) (base := base) T  H_check_round
  have D_pair_place := ok_pair_place (P := l.prog) (w := w) (base := base) T  H_pair_place
  have D_single_moves := ok_single_moves (P := l.prog) (w := w) (base := base) T  H_single_moves
  have D_trail_back := ok_trail_back (P := l.prog) (w := w) (base := base) T  H_trail_back
  have D_all_bars := ok_all_bars (P := l.prog) (w := w) (base := base) T  H_all_bars
  have D__law_jar := ok__law_jar (P := l.prog) (w := w) (base := base) T  H__law_jar
  have D__law_pick := ok__law_pick (P := l.prog) (w := w) (base := base) T  H__law_pick
  have D__law_under := ok__law_under (P := l.prog) (w := w) (base := base) T  H__law_under
  have D__law_shifted := ok__law_shifted (P := l.prog) (w := w) (base := base) T  H__law_shifted
  have D__law_times := ok__law_times (P := l.prog) (w := w) (base := base) T  H__law_times
  have D_is_whole_pair := ok_is_whole_pair (P := l.prog) (w := w) (base := base) T D_is_pair D_is_whole H_is_whole_pair
  have D_check_whole := ok_check_whole (P := l.prog) (w := w) (base := base) T D_is_whole H_check_whole
  have D_is_pitch := ok_is_pitch (P := l.prog) (w := w) (base := base) T D_is_whole H_is_pitch
  have D_are_teeth := ok_are_teeth (P := l.prog) (w := w) (base := base) T D_is_whole H_are_teeth
  have D_repeated_teeth := ok_repeated_teeth (P := l.prog) (w := w) (base := base) T D_teeth_under H_repeated_teeth
  have D_is_held := ok_is_held (P := l.prog) (w := w) (base := base) T D_catches H_is_held
  have D_after_move := ok_after_move (P := l.prog) (w := w) (base := base) T D_floor_catch H_after_move
  have D_check_moves := ok_check_moves (P := l.prog) (w := w) (base := base) T D_is_whole H_check_moves
  have D_comb_slacks := ok_comb_slacks (P := l.prog) (w := w) (base := base) T D_floor_catch H_comb_slacks
  have D_repeated_heights := ok_repeated_heights (P := l.prog) (w := w) (base := base) T D_moved_bar H_repeated_heights
  have D_far_height := ok_far_height (P := l.prog) (w := w) (base := base) T D_cycle_rise H_far_height
  have D_heights_behind_more := ok_heights_behind_more (P := l.prog) (w := w) (base := base) T D_heights_from H_heights_behind_more
  have D_moved_place := ok_moved_place (P := l.prog) (w := w) (base := base) T D_moved_bar H_moved_place
  have D_seen_bars := ok_seen_bars (P := l.prog) (w := w) (base := base) T D_moved_bar H_seen_bars
  have D__law_comb := ok__law_comb (P := l.prog) (w := w) (base := base) T D__law_pick H__law_comb
  have D__law_stand := ok__law_stand (P := l.prog) (w := w) (base := base) T D__law_pick D__law_under H__law_stand
  have D__law_steps := ok__law_steps (P := l.prog) (w := w) (base := base) T D__law_pick H__law_steps
  have D__law_round := ok__law_round (P := l.prog) (w := w) (base := base) T D__law_pick H__law_round
  have D_check_least := ok_check_least (P := l.prog) (w := w) (base := base) T D_check_whole H_check_least
  have D_check_comb := ok_check_comb (P := l.prog) (w := w) (base := base) T D_are_teeth D_is_pair D_is_pitch H_check_comb
  have D_is_comb := ok_is_comb (P := l.prog) (w := w) (base := base) T D_are_teeth D_is_pair D_is_pitch H_is_comb
  have D_fits_device := ok_fits_device (P := l.prog) (w := w) (base := base) T D_is_held D_is_whole_pair H_fits_device
  have D_device_slacks := ok_device_slacks (P := l.prog) (w := w) (base := base) T D_comb_slacks H_device_slacks
  have D_slack_mean := ok_slack_mean (P := l.prog) (w := w) (base := base) T D_cycle_rise D_repeated_heights H_slack_mean
  have D_heights_at := ok_heights_at (P := l.prog) (w := w) (base := base) T D_common_pitch D_is_held H_heights_at
  have D_check_height := ok_check_height (P := l.prog) (w := w) (base := base) T D_is_held D_is_whole H_check_height
  have D_joining_trail := ok_joining_trail (P := l.prog) (w := w) (base := base) T D_moved_place D_single_moves D_trail_back H_joining_trail
  have D_check_looks := ok_check_looks (P := l.prog) (w := w) (base := base) T D_is_whole_pair H_check_looks
  have D__law_pair := ok__law_pair (P := l.prog) (w := w) (base := base) T D__law_comb D__law_pick H__law_pair
  have D_check_between := ok_check_between (P := l.prog) (w := w) (base := base) T D_check_least H_check_between
  have D_check_device := ok_check_device (P := l.prog) (w := w) (base := base) T D_is_comb D_is_pair H_check_device
  have D_plain_comb := ok_plain_comb (P := l.prog) (w := w) (base := base) T D_check_comb D_copied_comb D_repeated_teeth D_teeth_under H_plain_comb
  have D_check_state := ok_check_state (P := l.prog) (w := w) (base := base) T D_fits_device H_check_state
  have D_heights_behind := ok_heights_behind (P := l.prog) (w := w) (base := base) T D_device_slacks D_heights_at D_moved_bar H_heights_behind
  have D_pump_mean := ok_pump_mean (P := l.prog) (w := w) (base := base) T D_slack_mean H_pump_mean
  have D_check_moving := ok_check_moving (P := l.prog) (w := w) (base := base) T D_check_device D_check_moves D_check_state H_check_moving
  have D_check_begun := ok_check_begun (P := l.prog) (w := w) (base := base) T D_check_device D_check_state H_check_begun
  have D_shifted_comb := ok_shifted_comb (P := l.prog) (w := w) (base := base) T D_plain_comb H_shifted_comb
  have D_check_reach := ok_check_reach (P := l.prog) (w := w) (base := base) T D_check_between D_check_device D_check_state H_check_reach
  have D_check_hand := ok_check_hand (P := l.prog) (w := w) (base := base) T D_check_device D_check_whole H_check_hand
  have D_check_small := ok_check_small (P := l.prog) (w := w) (base := base) T D_check_device H_check_small
  have D_check_told := ok_check_told (P := l.prog) (w := w) (base := base) T D_check_device D_check_looks H_check_told
  have D_moved_state := ok_moved_state (P := l.prog) (w := w) (base := base) T D_after_move D_check_moving H_moved_state
  have D_far_state := ok_far_state (P := l.prog) (w := w) (base := base) T D_check_least D_check_moving D_device_slacks D_far_height D_repeated_heights H_far_state
  have D_first_time := ok_first_time (P := l.prog) (w := w) (base := base) T D_check_moving D_check_whole D_cycle_rise D_device_slacks D_needed_cycles D_repeated_heights H_first_time
  have D_round_cycle := ok_round_cycle (P := l.prog) (w := w) (base := base) T D_check_moving D_cycle_rise D_device_slacks D_repeated_heights H_round_cycle
  have D_check_both := ok_check_both (P := l.prog) (w := w) (base := base) T D_check_begun H_check_both
  have D_shifted_device := ok_shifted_device (P := l.prog) (w := w) (base := base) T D_shifted_comb H_shifted_device
  have D_alike_state := ok_alike_state (P := l.prog) (w := w) (base := base) T D_check_begun D_plain_comb H_alike_state
  have D_best_heights := ok_best_heights (P := l.prog) (w := w) (base := base) T D_check_between D_check_reach D_check_within D_device_slacks D_heights_behind_more H_best_heights
  have D_check_rounds := ok_check_rounds (P := l.prog) (w := w) (base := base) T D_check_hand D_check_moves D_check_round H_check_rounds
  have D_held_heights := ok_held_heights (P := l.prog) (w := w) (base := base) T D_check_hand D_heights_at H_held_heights
  have D_check_bars := ok_check_bars (P := l.prog) (w := w) (base := base) T D_check_height D_check_small D_check_whole H_check_bars
  have D_span_rise := ok_span_rise (P := l.prog) (w := w) (base := base) T D_check_hand D_check_least D_device_slacks D_pump_mean H_span_rise
  have D_span_rows := ok_span_rows (P := l.prog) (w := w) (base := base) T D_check_hand D_common_pitch D_device_slacks D_pump_mean H_span_rows
  have D_clash_index := ok_clash_index (P := l.prog) (w := w) (base := base) T D_all_bars D_check_told D_device_slacks D_seen_bars H_clash_index
  have D_are_alike := ok_are_alike (P := l.prog) (w := w) (base := base) T D_check_both D_shifted_device H_are_alike
  have D_best_height := ok_best_height (P := l.prog) (w := w) (base := base) T D_best_heights H_best_height
  have D_mean_rise := ok_mean_rise (P := l.prog) (w := w) (base := base) T D_check_rounds D_device_slacks D_slack_mean H_mean_rise
  have D_stuck_heights := ok_stuck_heights (P := l.prog) (w := w) (base := base) T D_check_rounds D_heights_behind H_stuck_heights
  have D_joining_moves := ok_joining_moves (P := l.prog) (w := w) (base := base) T D_check_bars D_device_slacks D_joining_trail D_pair_place H_joining_moves
  have D_joining_count := ok_joining_count (P := l.prog) (w := w) (base := base) T D_joining_moves H_joining_count
  have D__law_shift_right := ok__law_shift_right (P := l.prog) (w := w) (base := base) T D__law_pick D__law_round D__law_shifted D_alike_state D_are_alike D_clash_index D_far_state D_first_time D_held_heights D_mean_rise D_moved_state D_round_cycle D_span_rows D_stuck_heights H__law_shift_right
  have D__law_times_right := ok__law_times_right (P := l.prog) (w := w) (base := base) T D__law_pick D__law_round D__law_times D__law_under D_best_height D_held_heights D_joining_count D_mean_rise D_moved_state D_span_rise H__law_times_right
  exact ok_law T D__law_jar D__law_pair D__law_pick D__law_shift_right D__law_stand D__law_steps D__law_times_right H_law
end K
open PySem PySem.W PyProof.Rows
set_option maxHeartbeats 0 in
theorem PySem.Challenge.cw_twocombs_k54_whole_everything_shifted_an_holds : PySem.Challenge.rw_twocombs_k54_whole_everything_shifted_an.Holds := by
  w_on; o_law; k_head; (case hw => w_witness2)
  k_fill
  refine PD.fg_end (l := PySem.Challenge.rw_twocombs_k54_whole_everything_shifted_an) (n := 63) (k := 11) (x := "script") (sp := fun w => PD.spLaw (_)) rfl (by decide) rfl ⟨rfl, by decide, by decide⟩ (fun w h Y => PySem.W.kIn_of Y) ?F (fun _ _ a ns hl _ hS => ⟨a, ns, rfl, hS, hl, fun _ => rfl⟩)
  case F =>
    intro w mg fa h KX G hmg
    refine' K.all_mk KX G hmg ?a_is_whole ?l_is_whole ?c_is_whole ?k_is_whole ?a_is_pair ?l_is_pair ?c_is_pair ?k_is_pair ?a_is_whole_pair ?l_is_whole_pair ?c_is_whole_pair ?k_is_whole_pair ?a_check_whole ?l_check_whole ?c_check_whole ?k_check_whole ?a_check_least ?l_check_least ?c_check_least ?k_check_least ?a_check_between ?l_check_between ?c_check_between ?k_check_between ?a_catches ?l_catches ?c_catches ?k_catches ?a_floor_catch ?l_floor_catch ?c_floor_catch ?k_floor_catch ?a_copied_comb ?l_copied_comb ?c_copied_comb ?k_copied_comb ?a_common_pitch ?l_common_pitch ?c_common_pitch ?k_common_pitch ?a_is_pitch ?l_is_pitch ?c_is_pitch ?k_is_pitch ?a_are_teeth ?l_are_teeth ?c_are_teeth ?k_are_teeth ?a_check_comb ?l_check_comb ?c_check_comb ?k_check_comb ?a_check_device ?l_check_device ?c_check_device ?k_check_device ?a_is_comb ?l_is_comb ?c_is_comb ?k_is_comb ?a_plain_comb ?l_plain_comb ?c_plain_comb ?k_plain_comb ?a_teeth_under ?l_teeth_under ?c_teeth_under ?k_teeth_under ?a_repeated_teeth ?l_repeated_teeth ?c_repeated_teeth ?k_repeated_teeth ?a_is_held ?l_is_held ?c_is_held ?k_is_held ?a_after_move ?l_after_move ?c_after_move ?k_after_move ?a_fits_device ?l_fits_device ?c_fits_device ?k_fits_device ?a_check_state ?l_check_state ?c_check_state ?k_check_state ?a_check_moves ?l_check_moves ?c_check_moves ?k_check_moves ?a_check_moving ?l_check_moving ?c_check_moving ?k_check_moving ?a_moved_state ?l_moved_state ?c_moved_state ?k_moved_state ?a_comb_slacks ?l_comb_slacks ?c_comb_slacks ?k_comb_slacks ?a_device_slacks ?l_device_slacks ?c_device_slacks ?k_device_slacks ?a_moved_bar ?l_moved_bar ?c_moved_bar ?k_moved_bar ?a_repeated_heights ?l_repeated_heights ?c_repeated_heights ?k_repeated_heights ?a_cycle_rise ?l_cycle_rise ?c_cycle_rise ?k_cycle_rise ?a_far_height ?l_far_height ?c_far_height ?k_far_height ?a_needed_cycles ?l_needed_cycles ?c_needed_cycles ?k_needed_cycles ?a_far_state ?l_far_state ?c_far_state ?k_far_state ?a_first_time ?l_first_time ?c_first_time ?k_first_time ?a_round_cycle ?l_round_cycle ?c_round_cycle ?k_round_cycle ?a_check_begun ?l_check_begun ?c_check_begun ?k_check_begun ?a_check_both ?l_check_both ?c_check_both ?k_check_both ?a_shifted_comb ?l_shifted_comb ?c_shifted_comb ?k_shifted_comb ?a_shifted_device ?l_shifted_device ?c_shifted_device ?k_shifted_device ?a_are_alike ?l_are_alike ?c_are_alike ?k_are_alike ?a_alike_state ?l_alike_state ?c_alike_state ?k_alike_state ?a_check_reach ?l_check_reach ?c_check_reach ?k_check_reach ?a_check_within ?l_check_within ?c_check_within ?k_check_within ?a_heights_from ?l_heights_from ?c_heights_from ?k_heights_from ?a_heights_behind_more ?l_heights_behind_more ?c_heights_behind_more ?k_heights_behind_more ?a_best_heights ?l_best_heights ?c_best_heights ?k_best_heights ?a_best_height ?l_best_height ?c_best_height ?k_best_height ?a_check_hand ?l_check_hand ?c_check_hand ?k_check_hand ?a_check_round ?l_check_round ?c_check_round ?k_check_round ?a_check_rounds ?l_check_rounds ?c_check_rounds ?k_check_rounds ?a_mean_rise ?l_mean_rise ?c_mean_rise ?k_mean_rise ?a_slack_mean ?l_slack_mean ?c_slack_mean ?k_slack_mean ?a_held_heights ?l_held_heights ?c_held_heights ?k_held_heights ?a_heights_at ?l_heights_at ?c_heights_at ?k_heights_at ?a_heights_behind ?l_heights_behind ?c_heights_behind ?k_heights_behind ?a_stuck_heights ?l_stuck_heights ?c_stuck_heights ?k_stuck_heights ?a_check_small ?l_check_small ?c_check_small ?k_check_small ?a_check_height ?l_check_height ?c_check_height ?k_check_height ?a_check_bars ?l_check_bars ?c_check_bars ?k_check_bars ?a_pair_place ?l_pair_place ?c_pair_place ?k_pair_place ?a_moved_place ?l_moved_place ?c_moved_place ?k_moved_place ?a_single_moves ?l_single_moves ?c_single_moves ?k_single_moves ?a_joining_trail ?l_joining_trail ?c_joining_trail ?k_joining_trail ?a_trail_back ?l_trail_back ?c_trail_back ?k_trail_back ?a_joining_count ?l_joining_count ?c_joining_count ?k_joining_count ?a_joining_moves ?l_joining_moves ?c_joining_moves ?k_joining_moves ?a_span_rise ?l_span_rise ?c_span_rise ?k_span_rise ?a_pump_mean ?l_pump_mean ?c_pump_mean ?k_pump_mean ?a_span_rows ?l_span_rows ?c_span_rows ?k_span_rows ?a_check_looks ?l_check_looks ?c_check_looks ?k_check_looks ?a_check_told ?l_check_told ?c_check_told ?k_check_told ?a_all_bars ?l_all_bars ?c_all_bars ?k_all_bars ?a_seen_bars ?l_seen_bars ?c_seen_bars ?k_seen_bars ?a_clash_index ?l_clash_index ?c_clash_index ?k_clash_index ?a__law_jar ?l__law_jar ?c__law_jar ?k__law_jar ?a__law_pick ?l__law_pick ?c__law_pick ?k__law_pick ?a__law_comb ?l__law_comb ?c__law_comb ?k__law_comb ?a__law_pair ?l__law_pair ?c__law_pair ?k__law_pair ?a__law_under ?l__law_under ?c__law_under ?k__law_under ?a__law_stand ?l__law_stand ?c__law_stand ?k__law_stand ?a__law_steps ?l__law_steps ?c__law_steps ?k__law_steps ?a__law_round ?l__law_round ?c__law_round ?k__law_round ?a__law_shifted ?l__law_shifted ?c__law_shifted ?k__law_shifted ?a__law_times ?l__law_times ?c__law_times ?k__law_times ?a__law_shift_right ?l__law_shift_right ?c__law_shift_right ?k__law_shift_right ?a__law_times_right ?l__law_times_right ?c__law_times_right ?k__law_times_right ?a_law ?l_law ?c_law ?k_law ?z_abs ?z_all ?z_bool ?z_divmod ?z_enumerate ?z_int ?z_isinstance ?z_len ?z_list ?z_max ?z_min ?z_range ?z_sorted ?z_sum ?z_tuple ?z_zip ?q_MOST_COUNT ?q_MOST_JOINING_PITCH ?q_MOST_LOOKS ?q_MOST_MOVES ?q_MOST_PITCH ?q_MOST_REACH ?m_gcd ?m_lcm
    (case a_is_whole => k_is); (case l_is_whole => k_is); (case c_is_whole => k_is); (case k_is_whole => k_is); (case a_is_pair => k_is); (case l_is_pair => k_is); (case c_is_pair => k_is); (case k_is_pair => k_is); (case a_is_whole_pair => k_is); (case l_is_whole_pair => k_is); (case c_is_whole_pair => k_is); (case k_is_whole_pair => k_is); (case a_check_whole => k_is); (case l_check_whole => k_is); (case c_check_whole => k_is); (case k_check_whole => k_is); (case a_check_least => k_is); (case l_check_least => k_is); (case c_check_least => k_is); (case k_check_least => k_is); (case a_check_between => k_is); (case l_check_between => k_is); (case c_check_between => k_is); (case k_check_between => k_is); (case a_catches => k_is); (case l_catches => k_is); (case c_catches => k_is); (case k_catches => k_is); (case a_floor_catch => k_is); (case l_floor_catch => k_is); (case c_floor_catch => k_is); (case k_floor_catch => k_is); (case a_copied_comb => k_is); (case l_copied_comb => k_is); (case c_copied_comb => k_is); (case k_copied_comb => k_is); (case a_common_pitch => k_is); (case l_common_pitch => k_is); (case c_common_pitch => k_is); (case k_common_pitch => k_is); (case a_is_pitch => k_is); (case l_is_pitch => k_is); (case c_is_pitch => k_is); (case k_is_pitch => k_is); (case a_are_teeth => k_is); (case l_are_teeth => k_is); (case c_are_teeth => k_is); (case k_are_teeth => k_is); (case a_check_comb => k_is); (case l_check_comb => k_is); (case c_check_comb => k_is); (case k_check_comb => k_is); (case a_check_device => k_is); (case l_check_device => k_is); (case c_check_device => k_is); (case k_check_device => k_is); (case a_is_comb => k_is); (case l_is_comb => k_is); (case c_is_comb => k_is); (case k_is_comb => k_is); (case a_plain_comb => k_is); (case l_plain_comb => k_is); (case c_plain_comb => k_is); (case k_plain_comb => k_is); (case a_teeth_under => k_is); (case l_teeth_under => k_is); (case c_teeth_under => k_is); (case k_teeth_under => k_is); (case a_repeated_teeth => k_is); (case l_repeated_teeth => k_is); (case c_repeated_teeth => k_is); (case k_repeated_teeth => k_is); (case a_is_held => k_is); (case l_is_held => k_is); (case c_is_held => k_is); (case k_is_held => k_is); (case a_after_move => k_is); (case l_after_move => k_is); (case c_after_move => k_is); (case k_after_move => k_is); (case a_fits_device => k_is); (case l_fits_device => k_is); (case c_fits_device => k_is); (case k_fits_device => k_is); (case a_check_state => k_is); (case l_check_state => k_is); (case c_check_state => k_is); (case k_check_state => k_is); (case a_check_moves => k_is); (case l_check_moves => k_is); (case c_check_moves => k_is); (case k_check_moves => k_is); (case a_check_moving => k_is); (case l_check_moving => k_is); (case c_check_moving => k_is); (case k_check_moving => k_is); (case a_moved_state => k_is); (case l_moved_state => k_is); (case c_moved_state => k_is); (case k_moved_state => k_is); (case a_comb_slacks => k_is); (case l_comb_slacks => k_is); (case c_comb_slacks => k_is); (case k_comb_slacks => k_is); (case a_device_slacks => k_is); (case l_device_slacks => k_is); (case c_device_slacks => k_is); (case k_device_slacks => k_is); (case a_moved_bar => k_is); (case l_moved_bar => k_is); (case c_moved_bar => k_is); (case k_moved_bar => k_is); (case a_repeated_heights => k_is); (case l_repeated_heights => k_is); (case c_repeated_heights => k_is); (case k_repeated_heights => k_is); (case a_cycle_rise => k_is); (case l_cycle_rise => k_is); (case c_cycle_rise => k_is); (case k_cycle_rise => k_is); (case a_far_height => k_is); (case l_far_height => k_is); (case c_far_height => k_is); (case k_far_height => k_is); (case a_needed_cycles => k_is); (case l_needed_cycles => k_is); (case c_needed_cycles => k_is); (case k_needed_cycles => k_is); (case a_far_state => k_is); (case l_far_state => k_is); (case c_far_state => k_is); (case k_far_state => k_is); (case a_first_time => k_is); (case l_first_time => k_is); (case c_first_time => k_is); (case k_first_time => k_is); (case a_round_cycle => k_is); (case l_round_cycle => k_is); (case c_round_cycle => k_is); (case k_round_cycle => k_is); (case a_check_begun => k_is); (case l_check_begun => k_is); (case c_check_begun => k_is); (case k_check_begun => k_is); (case a_check_both => k_is); (case l_check_both => k_is); (case c_check_both => k_is); (case k_check_both => k_is); (case a_shifted_comb => k_is); (case l_shifted_comb => k_is); (case c_shifted_comb => k_is); (case k_shifted_comb => k_is); (case a_shifted_device => k_is); (case l_shifted_device => k_is); (case c_shifted_device => k_is); (case k_shifted_device => k_is); (case a_are_alike => k_is); (case l_are_alike => k_is); (case c_are_alike => k_is); (case k_are_alike => k_is); (case a_alike_state => k_is); (case l_alike_state => k_is); (case c_alike_state => k_is); (case k_alike_state => k_is); (case a_check_reach => k_is); (case l_check_reach => k_is); (case c_check_reach => k_is); (case k_check_reach => k_is); (case a_check_within => k_is); (case l_check_within => k_is); (case c_check_within => k_is); (case k_check_within => k_is); (case a_heights_from => k_is); (case l_heights_from => k_is); (case c_heights_from => k_is); (case k_heights_from => k_is); (case a_heights_behind_more => k_is); (case l_heights_behind_more => k_is); (case c_heights_behind_more => k_is); (case k_heights_behind_more => k_is); (case a_best_heights => k_is); (case l_best_heights => k_is); (case c_best_heights => k_is); (case k_best_heights => k_is); (case a_best_height => k_is); (case l_best_height => k_is); (case c_best_height => k_is); (case k_best_height => k_is); (case a_check_hand => k_is); (case l_check_hand => k_is); (case c_check_hand => k_is); (case k_check_hand => k_is); (case a_check_round => k_is); (case l_check_round => k_is); (case c_check_round => k_is); (case k_check_round => k_is); (case a_check_rounds => k_is); (case l_check_rounds => k_is); (case c_check_rounds => k_is); (case k_check_rounds => k_is); (case a_mean_rise => k_is); (case l_mean_rise => k_is); (case c_mean_rise => k_is); (case k_mean_rise => k_is); (case a_slack_mean => k_is); (case l_slack_mean => k_is); (case c_slack_mean => k_is); (case k_slack_mean => k_is); (case a_held_heights => k_is); (case l_held_heights => k_is); (case c_held_heights => k_is); (case k_held_heights => k_is); (case a_heights_at => k_is); (case l_heights_at => k_is); (case c_heights_at => k_is); (case k_heights_at => k_is); (case a_heights_behind => k_is); (case l_heights_behind => k_is); (case c_heights_behind => k_is); (case k_heights_behind => k_is); (case a_stuck_heights => k_is); (case l_stuck_heights => k_is); (case c_stuck_heights => k_is); (case k_stuck_heights => k_is); (case a_check_small => k_is); (case l_check_small => k_is); (case c_check_small => k_is); (case k_check_small => k_is); (case a_check_height => k_is); (case l_check_height => k_is); (case c_check_height => k_is); (case k_check_height => k_is); (case a_check_bars => k_is); (case l_check_bars => k_is); (case c_check_bars => k_is); (case k_check_bars => k_is); (case a_pair_place => k_is); (case l_pair_place => k_is); (case c_pair_place => k_is); (case k_pair_place => k_is); (case a_moved_place => k_is); (case l_moved_place => k_is); (case c_moved_place => k_is); (case k_moved_place => k_is); (case a_single_moves => k_is); (case l_single_moves => k_is); (case c_single_moves => k_is); (case k_single_moves => k_is); (case a_joining_trail => k_is); (case l_joining_trail => k_is); (case c_joining_trail => k_is); (case k_joining_trail => k_is); (case a_trail_back => k_is); (case l_trail_back => k_is); (case c_trail_back => k_is); (case k_trail_back => k_is); (case a_joining_count => k_is); (case l_joining_count => k_is); (case c_joining_count => k_is); (case k_joining_count => k_is); (case a_joining_moves => k_is); (case l_joining_moves => k_is); (case c_joining_moves => k_is); (case k_joining_moves => k_is); (case a_span_rise => k_is); (case l_span_rise => k_is); (case c_span_rise => k_is); (case k_span_rise => k_is); (case a_pump_mean => k_is); (case l_pump_mean => k_is); (case c_pump_mean => k_is); (case k_pump_mean => k_is); (case a_span_rows => k_is); (case l_span_rows => k_is); (case c_span_rows => k_is); (case k_span_rows => k_is); (case a_check_looks => k_is); (case l_check_looks => k_is); (case c_check_looks => k_is); (case k_check_looks => k_is); (case a_check_told => k_is); (case l_check_told => k_is); (case c_check_told => k_is); (case k_check_told => k_is); (case a_all_bars => k_is); (case l_all_bars => k_is); (case c_all_bars => k_is); (case k_all_bars => k_is); (case a_seen_bars => k_is); (case l_seen_bars => k_is); (case c_seen_bars => k_is); (case k_seen_bars => k_is); (case a_clash_index => k_is); (case l_clash_index => k_is); (case c_clash_index => k_is); (case k_clash_index => k_is); (case a__law_jar => k_is); (case l__law_jar => k_is); (case c__law_jar => k_is); (case k__law_jar => k_is); (case a__law_pick => k_is); (case l__law_pick => k_is); (case c__law_pick => k_is); (case k__law_pick => k_is); (case a__law_comb => k_is); (case l__law_comb => k_is); (case c__law_comb => k_is); (case k__law_comb => k_is); (case a__law_pair => k_is); (case l__law_pair => k_is); (case c__law_pair => k_is); (case k__law_pair => k_is); (case a__law_under => k_is); (case l__law_under => k_is); (case c__law_under => k_is); (case k__law_under => k_is); (case a__law_stand => k_is); (case l__law_stand => k_is); (case c__law_stand => k_is); (case k__law_stand => k_is); (case a__law_steps => k_is); (case l__law_steps => k_is); (case c__law_steps => k_is); (case k__law_steps => k_is); (case a__law_round => k_is); (case l__law_round => k_is); (case c__law_round => k_is); (case k__law_round => k_is); (case a__law_shifted => k_is); (case l__law_shifted => k_is); (case c__law_shifted => k_is); (case k__law_shifted => k_is); (case a__law_times => k_is); (case l__law_times => k_is); (case c__law_times => k_is); (case k__law_times => k_is); (case a__law_shift_right => k_is); (case l__law_shift_right => k_is); (case c__law_shift_right => k_is); (case k__law_shift_right => k_is); (case a__law_times_right => k_is); (case l__law_times_right => k_is); (case c__law_times_right => k_is); (case k__law_times_right => k_is); (case a_law => k_is); (case l_law => k_is); (case c_law => k_is); (case k_law => k_is); (case z_abs => k_is); (case z_all => k_is); (case z_bool => k_is); (case z_divmod => k_is); (case z_enumerate => k_is); (case z_int => k_is); (case z_isinstance => k_is); (case z_len => k_is); (case z_list => k_is); (case z_max => k_is); (case z_min => k_is); (case z_range => k_is); (case z_sorted => k_is); (case z_sum => k_is); (case z_tuple => k_is); (case z_zip => k_is); (case q_MOST_COUNT => k_is); (case q_MOST_JOINING_PITCH => k_is); (case q_MOST_LOOKS => k_is); (case q_MOST_MOVES => k_is); (case q_MOST_PITCH => k_is); (case q_MOST_REACH => k_is); (case m_gcd => k_is); (case m_lcm => k_is)

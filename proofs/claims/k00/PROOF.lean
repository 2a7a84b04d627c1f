import PyProof.Rows.All
import Wide.All
import OpenK.AllK
import Wide.FinOn
import PySem.Challenge.RW_filedalike_k00_letters_made_and_refused
import HandS.ForMost
import HandS.Deep
import HandS.Style
import HandS.Flow
import HandS.Walk
import HandS.Wide
import HandS.IsInst
import HandS.TupAny
import HandS.Text
import HandS.FStr
import HandS.Star
import HandS.Defaults
import HandS.MakeKwOnly
import HandS.DictEq
import HandS.DeepEq
import HandS.TupLe
import KE.KEqDict
import KE.DataMinMax
import HandS.More
import HandS.SortInts
import HandS.SlotsOwn
import HandS.Steps
import HandS.DictTup
import KE.SortData
import HandS.ExcInit
import HandS.Nested
import KE.KSuper
import KE.KSuperObj
import KE.KExcSuper
import HandS.ExcOwn
import HandS.WordsExc
import HandS.TryOnly
import HandS.ExcField
import HandS.TupSets
import HandS.SetFor
import HandS.Dict
import HandS.Keys
import HandS.TryMany
import HandS.ExcIs
set_option Elab.async false
set_option linter.all false
set_option maxRecDepth 100000
/-! FD0: a heap-free layer over the hand layer. Data (D) read off a frozen part I of the heap; mutable things are resources with footprints. -/
namespace FD
open PySem PySem.Spec PyProof.Rows L2

abbrev Sg := List (Option V)
inductive D where
  | non | bl (b : Bool) | int (i : Int) | str (x : Str)
  | lst (ds : List D) | tup (ds : List D)
  | dic (ks : List Key) (ds : List D)
  | ins (C : Addr) (ns : List Str) (ds : List D)
  | raw (v : V)

def Ex (H H' : Hp) : Prop := ∀ a o, H a = some o → H' a = some o
theorem Ex.refl (H : Hp) : Ex H H := fun _ _ h => h
theorem Ex.trans {H H1 H2 : Hp} (a : Ex H H1) (b : Ex H1 H2) : Ex H H2 := fun x o h => b x o (a x o h)
theorem Ex.new {H : Hp} {p : Addr} {o : HO} (h : H p = none) : Ex H (upd H p o) := fun a u e => by
  rw [upd_ne (ne_of_none e h)]
  exact e
theorem Ex.back {H H' : Hp} {p : Addr} (e : Ex H H') (h : H' p = none) : H p = none := by
  cases h1 : H p with
  | none => rfl
  | some o =>
    rw [e p o h1] at h
    cases h
theorem Ex.upd2 {H H' : Hp} {p : Addr} {o : HO} (e : Ex H H') (h : H' p = none) : Ex (upd H p o) (upd H' p o) := fun a u q => by
  by_cases hp : a = p
  · subst hp; rw [upd_same] at q ⊢; exact q
  · rw [upd_ne hp] at q ⊢; exact e a u q
theorem Ex.rd {H H' : Hp} {a : Addr} {u : HO} (e : Ex H H') (h : Rd H a u) : Rd H' a u := by
  rcases h with h | ⟨o, h⟩
  · exact Or.inl (e a _ h)
  · exact Or.inr ⟨o, e a _ h⟩
theorem Ex.l {K : PySem.W.Frag} {H H' : Hp} {a : Addr} {xs : List V} (e : Ex H H') (h : SqL K H a xs) : SqL K H' a xs := by
  rcases h with h | h
  · exact Or.inl (e.rd h)
  · exact Or.inr h
theorem Ex.t {K : PySem.W.Frag} {H H' : Hp} {a : Addr} {xs : List V} (e : Ex H H') (h : SqT K H a xs) : SqT K H' a xs := by
  rcases h with h | h
  · exact Or.inl (e.rd h)
  · exact Or.inr h
theorem sq_of {K : PySem.W.Frag} {H : Hp} {a : Addr} {xs : List V} (h : H a = some (.lst xs)) : SqL K H a xs := Or.inl (Or.inl h)
theorem st_of {K : PySem.W.Frag} {H : Hp} {a : Addr} {xs : List V} (h : H a = some (.tup xs)) : SqT K H a xs := Or.inl (Or.inl h)

mutual
inductive Is (K : PySem.W.Frag) (I : Hp) : V → D → Prop
  | non : Is K I .non .non
  | bl (b : Bool) : Is K I (.bl b) (.bl b)
  | int (i : Int) : Is K I (.int i) (.int i)
  | str (x : Str) : Is K I (.str x) (.str x)
  | lst {a : Addr} {xs : List V} {ds : List D} : SqL K I a xs → IsA K I xs ds → Is K I (.ref a) (.lst ds)
  | tup {a : Addr} {xs : List V} {ds : List D} : SqT K I a xs → IsA K I xs ds → Is K I (.ref a) (.tup ds)
  | dic {a : Addr} {kvs : List (Key × V)} {ks : List Key} {ds : List D} : Rd I a (.dK kvs) → ks = kvs.map (·.1) → IsA K I (kvs.map (·.2)) ds → Is K I (.ref a) (.dic ks ds)
  | ins {a C dx : Addr} {fs : List (Str × V)} {ns : List Str} {ds : List D} : I a = some (.ins C dx fs) → ns = fs.map (·.1) → IsA K I (fs.map (·.2)) ds → Is K I (.ref a) (.ins C ns ds)
  | raw (v : V) : Is K I v (.raw v)
inductive IsA (K : PySem.W.Frag) (I : Hp) : List V → List D → Prop
  | nil : IsA K I [] []
  | cons {v : V} {vs : List V} {d : D} {ds : List D} : Is K I v d → IsA K I vs ds → IsA K I (v :: vs) (d :: ds)
end
section
variable {K : PySem.W.Frag} {I I' : Hp}
mutual
theorem Is.mono (e : Ex I I') : ∀ {d : D} {v : V}, Is K I v d → Is K I' v d
  | .non, _, h => by cases h; exact .non
  | .bl _, _, h => by cases h; exact .bl _
  | .int _, _, h => by cases h; exact .int _
  | .str _, _, h => by cases h; exact .str _
  | .lst ds, _, h => by
    cases h with
    | lst h1 h2 => exact .lst (e.l h1) (IsA.mono e h2)
  | .tup ds, _, h => by
    cases h with
    | tup h1 h2 => exact .tup (e.t h1) (IsA.mono e h2)
  | .dic ks ds, _, h => by
    cases h with
    | dic h1 h2 h3 => exact .dic (e.rd h1) h2 (IsA.mono e h3)
  | .ins C ns ds, _, h => by
    cases h with
    | ins h1 h2 h3 => exact .ins (e _ _ h1) h2 (IsA.mono e h3)
  | .raw _, _, h => by cases h; exact .raw _
theorem IsA.mono (e : Ex I I') : ∀ {ds : List D} {vs : List V}, IsA K I vs ds → IsA K I' vs ds
  | [], _, h => by cases h; exact .nil
  | d :: ds, _, h => by
    cases h with
    | cons h1 h2 => exact .cons (Is.mono e h1) (IsA.mono e h2)
end
theorem IsA.length : ∀ {ds : List D} {vs : List V}, IsA K I vs ds → vs.length = ds.length
  | [], _, h => by cases h; rfl
  | d :: ds, _, h => by
    cases h with
    | cons h1 h2 => simp [IsA.length h2]
theorem IsA.get : ∀ {ds : List D} {vs : List V} {i : Nat} {v : V}, IsA K I vs ds → vs[i]? = some v → ∃ d, ds[i]? = some d ∧ Is K I v d
  | [], _, i, v, h, e => by cases h; simp at e
  | d :: ds, _, 0, v, h, e => by
    cases h with
    | cons h1 h2 => simp at e; subst e; exact ⟨d, rfl, h1⟩
  | d :: ds, _, i + 1, v, h, e => by
    cases h with
    | cons h1 h2 =>
      obtain ⟨d', q, r⟩ := IsA.get (i := i) h2 (by simpa using e)
      exact ⟨d', by simpa using q, r⟩
theorem IsA.getD : ∀ {ds : List D} {vs : List V} {i : Nat} {d : D}, IsA K I vs ds → ds[i]? = some d → ∃ v, vs[i]? = some v ∧ Is K I v d := fun {ds vs i d} h e => by
  have hl := h.length
  obtain ⟨hi, e1⟩ := List.getElem?_eq_some_iff.mp e
  obtain ⟨d', q, r⟩ := IsA.get (i := i) (v := vs[i]'(by omega)) h (List.getElem?_eq_getElem (by omega))
  rw [e] at q
  cases q
  exact ⟨_, List.getElem?_eq_getElem (by omega), r⟩
theorem IsA.append : ∀ {ds es : List D} {vs ws : List V}, IsA K I vs ds → IsA K I ws es → IsA K I (vs ++ ws) (ds ++ es)
  | [], es, _, ws, h, h' => by cases h; exact h'
  | d :: ds, es, _, ws, h, h' => by
    cases h with
    | cons h1 h2 => exact .cons h1 (IsA.append h2 h')
theorem IsA.take : ∀ {ds : List D} {vs : List V} (n : Nat), IsA K I vs ds → IsA K I (vs.take n) (ds.take n)
  | _, _, 0, _ => by simp; exact .nil
  | [], _, n + 1, h => by cases h; exact .nil
  | d :: ds, _, n + 1, h => by
    cases h with
    | cons h1 h2 => exact .cons h1 (IsA.take n h2)
theorem IsA.drop : ∀ {ds : List D} {vs : List V} (n : Nat), IsA K I vs ds → IsA K I (vs.drop n) (ds.drop n)
  | _, _, 0, h => h
  | [], _, n + 1, h => by cases h; exact .nil
  | d :: ds, _, n + 1, h => by
    cases h with
    | cons h1 h2 => exact IsA.drop n h2
theorem IsA.set : ∀ {ds : List D} {vs : List V} (n : Nat) {v : V} {d : D}, IsA K I vs ds → Is K I v d → IsA K I (vs.set n v) (ds.set n d)
  | [], _, _, _, _, h, _ => by cases h; exact .nil
  | d :: ds, _, 0, _, _, h, q => by
    cases h with
    | cons h1 h2 => exact .cons q h2
  | d :: ds, _, n + 1, _, _, h, q => by
    cases h with
    | cons h1 h2 => exact .cons h1 (IsA.set n h2 q)
theorem IsA.erase : ∀ {ds : List D} {vs : List V} (n : Nat), IsA K I vs ds → IsA K I (vs.eraseIdx n) (ds.eraseIdx n)
  | [], _, _, h => by cases h; exact .nil
  | d :: ds, _, 0, h => by
    cases h with
    | cons h1 h2 => exact h2
  | d :: ds, _, n + 1, h => by
    cases h with
    | cons h1 h2 => exact .cons h1 (IsA.erase n h2)
theorem IsA.reverse : ∀ {ds : List D} {vs : List V}, IsA K I vs ds → IsA K I vs.reverse ds.reverse
  | [], _, h => by cases h; exact .nil
  | d :: ds, _, h => by
    cases h with
    | cons h1 h2 =>
      rw [List.reverse_cons, List.reverse_cons]
      exact IsA.append (IsA.reverse h2) (.cons h1 .nil)
end

/-! ### resources -/
structure Res where
  P : Hp → V → Hp → List Addr → Prop
  mono : ∀ {I I' : Hp} {v : V} {H : Hp} {L : List Addr}, Ex I I' → P I v H L → P I' v H L
  frame : ∀ {I : Hp} {v : V} {H H' : Hp} {L : List Addr}, (∀ a ∈ L, H' a = H a) → P I v H L → P I v H' L
  live : ∀ {I : Hp} {v : V} {H : Hp} {L : List Addr}, P I v H L → ∀ a ∈ L, H a ≠ none
/-- a list of data that may be changed -/
def Rlst (K : PySem.W.Frag) (ds : List D) : Res where
  P I v H L := ∃ a xs, v = .ref a ∧ L = [a] ∧ H a = some (.lst xs) ∧ IsA K I xs ds
  mono e h := by
    obtain ⟨a, xs, h1, h2, h3, h4⟩ := h
    exact ⟨a, xs, h1, h2, h3, IsA.mono e h4⟩
  frame f h := by
    obtain ⟨a, xs, h1, h2, h3, h4⟩ := h
    subst h2
    exact ⟨a, xs, h1, rfl, (f a (by simp)).trans h3, h4⟩
  live h := by
    obtain ⟨a, xs, h1, h2, h3, h4⟩ := h
    subst h2
    intro b hb
    simp at hb
    subst hb
    rw [h3]
    exact fun z => nomatch z

/-- what a slot holds: not told | data | a resource, its value -/
inductive Sl where
  | em | dat (d : D) | res (v : V) (R : Res)

inductive EnvOk (K : PySem.W.Frag) (I H : Hp) : List Sl → Sg → List Addr → Prop
  | nil : EnvOk K I H [] [] []
  | em {Γ : List Sl} {σ : Sg} {L : List Addr} (x : Option V) : EnvOk K I H Γ σ L → EnvOk K I H (.em :: Γ) (x :: σ) L
  | dat {Γ : List Sl} {σ : Sg} {L : List Addr} {v : V} {d : D} : Is K I v d → EnvOk K I H Γ σ L → EnvOk K I H (.dat d :: Γ) (some v :: σ) L
  | res {Γ : List Sl} {σ : Sg} {L1 L2 : List Addr} {v : V} {R : Res} : R.P I v H L1 → EnvOk K I H Γ σ L2 → EnvOk K I H (.res v R :: Γ) (some v :: σ) (L1 ++ L2)

structure Wd (K : PySem.W.Frag) (Γ : List Sl) (σ : Sg) (I H : Hp) (L : List Addr) : Prop where
  env : EnvOk K I H Γ σ L
  nd : L.Nodup
  fr : ∀ a ∈ L, I a = none
  sub : Ex I H

structure Step (I H : Hp) (L : List Addr) (I' H' : Hp) (L' : List Addr) : Prop where
  i : Ex I I'
  keep : ∀ a o, H a = some o → a ∉ L → H' a = some o
  l : ∀ a ∈ L', a ∈ L ∨ H a = none
  n : ∀ a o, I' a = some o → I a = some o ∨ a ∈ L ∨ H a = none
structure New (I H I' H' : Hp) : Prop where
  i : Ex I I'
  h : Ex H H'
  n : ∀ a o, I' a = some o → I a = some o ∨ H a = none
theorem New.refl (I H : Hp) : New I H I H := ⟨Ex.refl I, Ex.refl H, fun _ _ h => .inl h⟩
theorem New.trans {I H I1 H1 I2 H2 : Hp} (a : New I H I1 H1) (b : New I1 H1 I2 H2) : New I H I2 H2 := ⟨a.i.trans b.i, a.h.trans b.h, fun x o h => by
  rcases b.n x o h with h | h
  · exact a.n x o h
  · exact .inr (a.h.back h)⟩
theorem New.step {I H I' H' : Hp} (a : New I H I' H') (L : List Addr) : Step I H L I' H' L := ⟨a.i, fun x o h _ => a.h x o h, fun x h => .inl h, fun x o h => (a.n x o h).elim .inl fun z => .inr (.inr z)⟩
theorem Step.refl (I H : Hp) (L : List Addr) : Step I H L I H L := (New.refl I H).step L
theorem Step.trans {I H I1 H1 I2 H2 : Hp} {L L1 L2 : List Addr} (a : Step I H L I1 H1 L1) (b : Step I1 H1 L1 I2 H2 L2) : Step I H L I2 H2 L2 where
  i := a.i.trans b.i
  keep x o h hl := b.keep x o (a.keep x o h hl) fun z => (a.l x z).elim hl fun q => by rw [h] at q; cases q
  l x h := (b.l x h).elim (a.l x) fun q => by
    by_cases hl : x ∈ L
    · exact .inl hl
    · cases e : H x with
      | none => exact .inr rfl
      | some o =>
        rw [a.keep x o e hl] at q
        cases q
  n x o h := by
    rcases b.n x o h with h | h | h
    · exact a.n x o h
    · exact .inr (a.l x h)
    · by_cases hl : x ∈ L
      · exact .inr (.inl hl)
      · cases e : H x with
        | none => exact .inr (.inr rfl)
        | some o =>
          rw [a.keep x o e hl] at h
          cases h

section
variable {K : PySem.W.Frag} {Γ Γ' : List Sl} {σ : Sg} {I H I' H' : Hp} {L L' : List Addr}
theorem EnvOk.live : ∀ {Γ : List Sl} {σ : Sg} {L : List Addr}, EnvOk K I H Γ σ L → ∀ a ∈ L, H a ≠ none
  | _, _, _, .nil, _, h => by simp at h
  | _, _, _, .em _ e, a, h => e.live a h
  | _, _, _, .dat _ e, a, h => e.live a h
  | _, _, _, .res (R := R) p e, a, h => (List.mem_append.mp h).elim (R.live p a) (e.live a)
theorem EnvOk.len : ∀ {Γ : List Sl} {σ : Sg} {L : List Addr}, EnvOk K I H Γ σ L → Γ.length = σ.length
  | _, _, _, .nil => rfl
  | _, _, _, .em _ e => by simp [e.len]
  | _, _, _, .dat _ e => by simp [e.len]
  | _, _, _, .res _ e => by simp [e.len]
theorem EnvOk.keep (e : Ex I I') : ∀ {Γ : List Sl} {σ : Sg} {L : List Addr}, (∀ a ∈ L, H' a = H a) → EnvOk K I H Γ σ L → EnvOk K I' H' Γ σ L
  | _, _, _, _, .nil => .nil
  | _, _, _, k, .em _ q => .em _ (q.keep e k)
  | _, _, _, k, .dat p q => .dat (p.mono e) (q.keep e k)
  | _, _, _, k, .res (R := R) p q => .res (R.mono e (R.frame (fun a h => k a (List.mem_append_left _ h)) p)) (q.keep e fun a h => k a (List.mem_append_right _ h))
theorem Wd.live (w : Wd K Γ σ I H L) : ∀ a ∈ L, H a ≠ none := w.env.live
theorem Wd.new (w : Wd K Γ σ I H L) (n : New I H I' H') (s : Ex I' H') : Wd K Γ σ I' H' L where
  env := w.env.keep n.i fun a h => by
    cases e : H a with
    | none => exact absurd e (w.live a h)
    | some o => exact n.h a o e
  nd := w.nd
  fr a h := by
    cases e : I' a with
    | none => rfl
    | some o =>
      rcases n.n a o e with q | q
      · rw [w.fr a h] at q; cases q
      · exact absurd q (w.live a h)
  sub := s
/-- reading a data slot -/
theorem EnvOk.get : ∀ {Γ : List Sl} {σ : Sg} {L : List Addr} {i : Nat} {d : D}, EnvOk K I H Γ σ L → Γ[i]? = some (.dat d) → ∃ v, σ[i]? = some (some v) ∧ Is K I v d
  | _, _, _, _, _, .nil, h => by simp at h
  | _, _, _, 0, _, .em _ _, h => by simp at h
  | _, _, _, 0, _, .dat p _, h => by simp at h; subst h; exact ⟨_, rfl, p⟩
  | _, _, _, 0, _, .res _ _, h => by simp at h
  | _, _, _, i + 1, d, .em _ e, h => by simpa using EnvOk.get (i := i) (d := d) e (by simpa using h)
  | _, _, _, i + 1, d, .dat _ e, h => by simpa using EnvOk.get (i := i) (d := d) e (by simpa using h)
  | _, _, _, i + 1, d, .res _ e, h => by simpa using EnvOk.get (i := i) (d := d) e (by simpa using h)
/-- a resource slot taken out: what stands around it -/
theorem EnvOk.getR : ∀ {Γ : List Sl} {σ : Sg} {L : List Addr} {i : Nat} {v : V} {R : Res}, EnvOk K I H Γ σ L → Γ[i]? = some (.res v R) → σ[i]? = some (some v) ∧ ∃ L1 Li L2, L = L1 ++ (Li ++ L2) ∧ R.P I v H Li ∧
    ∀ (I' H' : Hp) (R' : Res) (Li' : List Addr), Ex I I' → (∀ a, a ∈ L1 ++ L2 → H' a = H a) → R'.P I' v H' Li' → EnvOk K I' H' (Γ.set i (.res v R')) σ (L1 ++ (Li' ++ L2))
  | _, _, _, _, _, _, .nil, h => by simp at h
  | _, _, _, 0, _, _, .em _ _, h => by simp at h
  | _, _, _, 0, _, _, .dat p _, h => by simp at h
  | _, _, _, 0, _, _, .res (L1 := Li) (L2 := L2) p e, h => by
    simp at h
    obtain ⟨rfl, rfl⟩ := h
    exact ⟨rfl, [], Li, L2, rfl, p, fun I' H' R' Li' ei k q => (EnvOk.res (L1 := Li') (L2 := L2) q (e.keep ei fun a h => k a (by simpa using h)) : EnvOk K I' H' _ _ (Li' ++ L2))⟩
  | _, _, _, i + 1, v, R, .em x e, h => by
    obtain ⟨h1, L1, Li, L2, h2, h3, h4⟩ := EnvOk.getR (i := i) (v := v) (R := R) e (by simpa using h)
    exact ⟨by simpa using h1, L1, Li, L2, h2, h3, fun I' H' R' Li' ei k q => .em x (h4 I' H' R' Li' ei k q)⟩
  | _, _, _, i + 1, v, R, .dat p e, h => by
    obtain ⟨h1, L1, Li, L2, h2, h3, h4⟩ := EnvOk.getR (i := i) (v := v) (R := R) e (by simpa using h)
    exact ⟨by simpa using h1, L1, Li, L2, h2, h3, fun I' H' R' Li' ei k q => .dat (p.mono ei) (h4 I' H' R' Li' ei k q)⟩
  | _, _, _, i + 1, v, R, .res (L1 := L0) (R := R0) p e, h => by
    obtain ⟨h1, L1, Li, L2, h2, h3, h4⟩ := EnvOk.getR (i := i) (v := v) (R := R) e (by simpa using h)
    refine ⟨by simpa using h1, L0 ++ L1, Li, L2, by rw [h2, List.append_assoc], h3, fun I' H' R' Li' ei k q => ?_⟩
    rw [List.append_assoc]
    exact .res (R0.mono ei (R0.frame (fun a h => k a (List.mem_append_left _ (List.mem_append_left _ h))) p)) (h4 I' H' R' Li' ei (fun a h => k a (by
      rcases List.mem_append.mp h with h | h
      · exact List.mem_append_left _ (List.mem_append_right _ h)
      · exact List.mem_append_right _ h)) q)
/-- a slot is set to data, whatever was there -/
theorem EnvOk.setD {v : V} {d : D} (q : Is K I v d) : ∀ {Γ : List Sl} {σ : Sg} {L : List Addr} (i : Nat), EnvOk K I H Γ σ L → ∃ L', L'.Sublist L ∧ EnvOk K I H (Γ.set i (.dat d)) (σ.set i (some v)) L'
  | _, _, _, _, .nil => ⟨[], List.Sublist.refl _, .nil⟩
  | _, _, _, 0, .em _ e => ⟨_, List.Sublist.refl _, .dat q e⟩
  | _, _, _, 0, .dat _ e => ⟨_, List.Sublist.refl _, .dat q e⟩
  | _, _, _, 0, .res (L1 := L1) _ e => ⟨_, List.sublist_append_right _ _, .dat q e⟩
  | _, _, _, i + 1, .em x e => let ⟨L', s, r⟩ := EnvOk.setD q i e; ⟨L', s, .em x r⟩
  | _, _, _, i + 1, .dat p e => let ⟨L', s, r⟩ := EnvOk.setD q i e; ⟨L', s, .dat p r⟩
  | _, _, _, i + 1, .res (L1 := L1) p e => let ⟨L', s, r⟩ := EnvOk.setD q i e; ⟨L1 ++ L', List.Sublist.append_left s _, .res p r⟩
/-- a slot is forgotten -/
theorem EnvOk.setE (x : Option V) : ∀ {Γ : List Sl} {σ : Sg} {L : List Addr} (i : Nat), EnvOk K I H Γ σ L → ∃ L', L'.Sublist L ∧ EnvOk K I H (Γ.set i .em) (σ.set i x) L'
  | _, _, _, _, .nil => ⟨[], List.Sublist.refl _, .nil⟩
  | _, _, _, 0, .em _ e => ⟨_, List.Sublist.refl _, .em _ e⟩
  | _, _, _, 0, .dat _ e => ⟨_, List.Sublist.refl _, .em _ e⟩
  | _, _, _, 0, .res (L1 := L1) _ e => ⟨_, List.sublist_append_right _ _, .em _ e⟩
  | _, _, _, i + 1, .em y e => let ⟨L', s, r⟩ := EnvOk.setE x i e; ⟨L', s, .em y r⟩
  | _, _, _, i + 1, .dat p e => let ⟨L', s, r⟩ := EnvOk.setE x i e; ⟨L', s, .dat p r⟩
  | _, _, _, i + 1, .res (L1 := L1) p e => let ⟨L', s, r⟩ := EnvOk.setE x i e; ⟨L1 ++ L', List.Sublist.append_left s _, .res p r⟩
theorem Wd.sublist {Γ' : List Sl} {σ' : Sg} (w : Wd K Γ σ I H L) (s : L'.Sublist L) (e : EnvOk K I H Γ' σ' L') : Wd K Γ' σ' I H L' := ⟨e, w.nd.sublist s, fun a h => w.fr a (s.subset h), w.sub⟩
theorem Step.sublist (s : L'.Sublist L) : Step I H L I H L' := ⟨Ex.refl I, fun _ _ h _ => h, fun a h => .inl (s.subset h), fun _ _ h => .inl h⟩
/-- Γ' tells less than Γ -/
inductive Wk : List Sl → List Sl → Prop
  | nil : Wk [] []
  | keep {x : Sl} {Γ Γ' : List Sl} : Wk Γ Γ' → Wk (x :: Γ) (x :: Γ')
  | drop {x : Sl} {Γ Γ' : List Sl} : Wk Γ Γ' → Wk (x :: Γ) (.em :: Γ')
theorem Wk.refl : ∀ Γ : List Sl, Wk Γ Γ
  | [] => .nil
  | _ :: Γ => .keep (Wk.refl Γ)
theorem EnvOk.weak : ∀ {Γ Γ' : List Sl} {σ : Sg} {L : List Addr}, Wk Γ Γ' → EnvOk K I H Γ σ L → ∃ L', L'.Sublist L ∧ EnvOk K I H Γ' σ L'
  | _, _, _, _, .nil, .nil => ⟨[], List.Sublist.refl _, .nil⟩
  | _, _, _, _, .keep k, .em x e => let ⟨L', s, r⟩ := EnvOk.weak k e; ⟨L', s, .em x r⟩
  | _, _, _, _, .keep k, .dat p e => let ⟨L', s, r⟩ := EnvOk.weak k e; ⟨L', s, .dat p r⟩
  | _, _, _, _, .keep k, .res (L1 := L1) p e => let ⟨L', s, r⟩ := EnvOk.weak k e; ⟨L1 ++ L', List.Sublist.append_left s _, .res p r⟩
  | _, _, _, _, .drop k, .em x e => let ⟨L', s, r⟩ := EnvOk.weak k e; ⟨L', s, .em x r⟩
  | _, _, _, _, .drop k, .dat p e => let ⟨L', s, r⟩ := EnvOk.weak k e; ⟨L', s, .em _ r⟩
  | _, _, _, _, .drop k, .res (L1 := L1) p e => let ⟨L', s, r⟩ := EnvOk.weak k e; ⟨L', s.trans (List.sublist_append_right _ _), .em _ r⟩
theorem Wd.weak (w : Wd K Γ σ I H L) (k : Wk Γ Γ') : ∃ L', Wd K Γ' σ I H L' ∧ Step I H L I H L' := by
  obtain ⟨L', s, e⟩ := w.env.weak k
  exact ⟨L', w.sublist s e, Step.sublist s⟩
theorem Wd.setD {v : V} {d : D} (w : Wd K Γ σ I H L) (q : Is K I v d) (i : Nat) : ∃ L', Wd K (Γ.set i (.dat d)) (σ.set i (some v)) I H L' ∧ Step I H L I H L' := by
  obtain ⟨L', s, e⟩ := w.env.setD q i
  exact ⟨L', w.sublist s e, Step.sublist s⟩
/-- the resource at slot i is changed by a step over its own footprint -/
theorem Wd.stepR {i : Nat} {v : V} {R : Res} (w : Wd K Γ σ I H L) (hi : Γ[i]? = some (.res v R)) : σ[i]? = some (some v) ∧ ∃ Li, R.P I v H Li ∧ Li.Nodup ∧ (∀ a ∈ Li, I a = none) ∧
    ∀ (I' H' : Hp) (R' : Res) (Li' : List Addr), Step I H Li I' H' Li' → Li'.Nodup → (∀ a ∈ Li', I' a = none) → Ex I' H' → R'.P I' v H' Li' → ∃ L', Wd K (Γ.set i (.res v R')) σ I' H' L' ∧ Step I H L I' H' L' := by
  obtain ⟨h1, L1, Li, L2, rfl, hp, hk⟩ := w.env.getR hi
  have nd := w.nd
  have nd2 := List.nodup_append.mp nd
  have nd3 := List.nodup_append.mp nd2.2.1
  refine ⟨h1, Li, hp, nd3.1, fun a h => w.fr a (by simp [h]), fun I' H' R' Li' st nd' fr' sub' hp' => ?_⟩
  have out : ∀ a, a ∈ L1 ++ L2 → a ∉ Li := fun a h z => by
    rcases List.mem_append.mp h with h | h
    · exact nd2.2.2 a h a (by simp [z]) rfl
    · exact nd3.2.2 a z a h rfl
  have lv : ∀ a, a ∈ L1 ++ L2 → H a ≠ none := fun a h => w.live a (by
    rcases List.mem_append.mp h with h | h
    · simp [h]
    · simp [h])
  have kp : ∀ a, a ∈ L1 ++ L2 → H' a = H a := fun a h => by
    cases e : H a with
    | none => exact absurd e (lv a h)
    | some o => exact st.keep a o e (out a h)
  have apart : ∀ a ∈ Li', a ∉ L1 ++ L2 := fun a h z => (st.l a h).elim (out a z) (lv a z)
  refine ⟨L1 ++ (Li' ++ L2), ⟨hk I' H' R' Li' st.i kp hp', ?_, fun a h => ?_, sub'⟩, ⟨st.i, fun a o e hl => st.keep a o e fun z => hl (by simp [z]), fun a h => ?_, fun a o h => ?_⟩⟩
  · refine List.nodup_append.mpr ⟨nd2.1, List.nodup_append.mpr ⟨nd', nd3.2.1, fun a h b hb e => apart a h (by subst e; simp [hb])⟩, fun a h b hb e => ?_⟩
    subst e
    rcases List.mem_append.mp hb with hb | hb
    · exact apart a hb (by simp [h])
    · exact nd2.2.2 a h a (by simp [hb]) rfl
  · by_cases hL : a ∈ Li'
    · exact fr' a hL
    · have ha : a ∈ L1 ++ L2 := by simp at h ⊢; rcases h with h | h | h; exact .inl h; exact absurd h hL; exact .inr h
      cases e : I' a with
      | none => rfl
      | some o =>
        rcases st.n a o e with q | q | q
        · rw [w.fr a (by simp at ha ⊢; rcases ha with h | h; exact .inl h; exact .inr (.inr h))] at q; cases q
        · exact absurd q (out a ha)
        · exact absurd q (lv a ha)
  · simp at h
    rcases h with h | h | h
    · exact .inl (by simp [h])
    · exact (st.l a h).elim (fun z => .inl (by simp [z])) .inr
    · exact .inl (by simp [h])
  · rcases st.n a o h with q | q | q
    · exact .inl q
    · exact .inr (.inl (by simp [q]))
    · exact .inr (.inr q)
end
end FD

/-! FD1: expressions, tests, arguments, statements, contracts over the layer FD0. -/
namespace FD
open PySem PySem.Spec PyProof.Rows L2

inductive Md where
  | p | e
def Guar : Md → Hp → Hp → List Addr → Hp → Hp → List Addr → Prop
  | .p => fun I H L I' H' L' => New I H I' H' ∧ L' = L
  | .e => Step
theorem Guar.refl {m : Md} {I H : Hp} {L : List Addr} : Guar m I H L I H L := by
  cases m with
  | p => exact ⟨New.refl I H, rfl⟩
  | e => exact Step.refl I H L
theorem Guar.new {m : Md} {I H I' H' : Hp} {L : List Addr} (n : New I H I' H') : Guar m I H L I' H' L := by
  cases m with
  | p => exact ⟨n, rfl⟩
  | e => exact n.step L
theorem Guar.trans {m : Md} {I H I1 H1 I2 H2 : Hp} {L L1 L2 : List Addr} (a : Guar m I H L I1 H1 L1) (b : Guar m I1 H1 L1 I2 H2 L2) : Guar m I H L I2 H2 L2 := by
  cases m with
  | p =>
    obtain ⟨a1, rfl⟩ := a
    obtain ⟨b1, rfl⟩ := b
    exact ⟨a1.trans b1, rfl⟩
  | e => exact Step.trans a b
theorem Guar.step {m : Md} {I H I1 H1 : Hp} {L L1 : List Addr} (a : Guar m I H L I1 H1 L1) : Step I H L I1 H1 L1 := by
  cases m with
  | p =>
    obtain ⟨a1, rfl⟩ := a
    exact a1.step _
  | e => exact a
theorem Guar.i {m : Md} {I H I1 H1 : Hp} {L L1 : List Addr} (a : Guar m I H L I1 H1 L1) : Ex I I1 := a.step.i

def PureR (K : PySem.W.Frag) (I H : Hp) (r : Hp → VK → Prop) (z : D) : Prop := ∀ Q : VK, (∀ v I' H', New I H I' H' → Ex I' H' → Is K I' v z → Q v H') → r H Q
def OpD (K : PySem.W.Frag) (r : R2) (x y z : D) : Prop := ∀ I H v w, Ex I H → Is K I v x → Is K I w y → PureR K I H (r v w) z
def UnD (K : PySem.W.Frag) (r : V → Hp → VK → Prop) (x z : D) : Prop := ∀ I H v, Ex I H → Is K I v x → PureR K I H (r v) z
def CallD (K : PySem.W.Frag) (r : List V → Hp → VK → Prop) (ds : List D) (z : D) : Prop := ∀ I H vs, Ex I H → IsA K I vs ds → PureR K I H (r vs) z
/-- a method of a built-in type -/
def MtD (K : PySem.W.Frag) (r : V → List V → Hp → VK → Prop) (x : D) (ds : List D) (z : D) : Prop := ∀ I H v vs, Ex I H → Is K I v x → IsA K I vs ds → PureR K I H (r v vs) z

def Ev (K : PySem.W.Frag) (m : Md) (te : TE) (Γ : List Sl) (d : D) (Γ' : List Sl) : Prop :=
  ∀ σ I H L, Wd K Γ σ I H L → ∀ Q : VK, (∀ v I' H' L', Wd K Γ' σ I' H' L' → Guar m I H L I' H' L' → Is K I' v d → Q v H') → te σ H Q
def EvT (K : PySem.W.Frag) (m : Md) (tt : TT) (Γ : List Sl) (b : Bool) (Γ' : List Sl) : Prop :=
  ∀ σ I H L, Wd K Γ σ I H L → ∀ Q : Bool → Hp → Prop, (∀ I' H' L', Wd K Γ' σ I' H' L' → Guar m I H L I' H' L' → Q b H') → tt σ H Q
def EvA (K : PySem.W.Frag) (m : Md) (ta : TA) (Γ : List Sl) (ds : List D) (Γ' : List Sl) : Prop :=
  ∀ σ I H L, Wd K Γ σ I H L → ∀ Q : List V → Hp → Prop, (∀ vs I' H' L', Wd K Γ' σ I' H' L' → Guar m I H L I' H' L' → IsA K I' vs ds → Q vs H') → ta σ H Q
/-- a part of a slice -/
def EvO (K : PySem.W.Frag) (m : Md) (to : TO) (Γ : List Sl) (o : Option Int) (Γ' : List Sl) : Prop :=
  ∀ σ I H L, Wd K Γ σ I H L → ∀ Q : Option Int → Hp → Prop, (∀ I' H' L', Wd K Γ' σ I' H' L' → Guar m I H L I' H' L' → Q o H') → to σ H Q
/-- a new resource -/
def EvR (K : PySem.W.Frag) (te : TE) (Γ : List Sl) (R : Res) (Γ' : List Sl) : Prop :=
  ∀ σ I H L, Wd K Γ σ I H L → ∀ Q : VK, (∀ v I' H' L', Wd K (.res v R :: Γ') (some v :: σ) I' H' L' → Step I H L I' H' L' → Q v H') → te σ H Q
/-- arguments: data, or the resource in a slot -/
def ArOk (K : PySem.W.Frag) (I : Hp) (σ : Sg) : List V → List (Sum D Nat) → Prop := fun vs as => ∀ i : Nat, (∀ v, vs[i]? = some v → ∃ a, as[i]? = some a ∧ match a with
  | .inl d => Is K I v d
  | .inr j => σ[j]? = some (some v)) ∧ vs.length = as.length

section
variable {K : PySem.W.Frag} {m : Md} {Γ Γ' Γ1 Γ2 Γ3 : List Sl} {ta tb te tx : TE} {t u : TT} {x y z d : D} {r : R2} {a b c : Bool}

theorem Ev.is {d' : D} (h : Ev K m te Γ d Γ') (e : d = d') : Ev K m te Γ d' Γ' := e ▸ h
theorem EvT.is {b' : Bool} (h : EvT K m t Γ b Γ') (e : b = b') : EvT K m t Γ b' Γ' := e ▸ h
theorem Ev.eff (h : Ev K .p te Γ d Γ') : Ev K m te Γ d Γ' := fun σ I H L w Q q => h σ I H L w Q fun v I' H' L' w' g hv => by
  obtain ⟨g1, rfl⟩ := g
  exact q v I' H' _ w' (Guar.new g1) hv
theorem EvT.eff (h : EvT K .p t Γ b Γ') : EvT K m t Γ b Γ' := fun σ I H L w Q q => h σ I H L w Q fun I' H' L' w' g => by
  obtain ⟨g1, rfl⟩ := g
  exact q I' H' _ w' (Guar.new g1)
/-! values -/
theorem ev_var {i : Nat} (h : Γ[i]? = some (.dat d)) : Ev K m (tVar i) Γ d Γ := fun σ I H L w Q q => by
  obtain ⟨v, e, hv⟩ := w.env.get h
  exact ⟨v, e, q v I H L w Guar.refl hv⟩
theorem ev_c {v : V} (h : ∀ I, Is K I v d) : Ev K m (tC v) Γ d Γ := fun σ I H L w Q q => q v I H L w Guar.refl (h I)
theorem ev_int {i : Int} : Ev K m (tC (.int i)) Γ (.int i) Γ := ev_c fun _ => .int i
theorem ev_str {s : Str} : Ev K m (tC (.str s)) Γ (.str s) Γ := ev_c fun _ => .str s
theorem ev_bl : Ev K m (tC (.bl b)) Γ (.bl b) Γ := ev_c fun _ => .bl b
theorem ev_non : Ev K m (tC .non) Γ .non Γ := ev_c fun _ => .non
theorem ev_raw {v : V} : Ev K m (tC v) Γ (.raw v) Γ := ev_c fun _ => .raw v
theorem ev_op (ha : Ev K m ta Γ x Γ1) (hb : Ev K m tb Γ1 y Γ2) (hr : OpD K r x y z) : Ev K m (tOp r ta tb) Γ z Γ2 := fun σ I H L w Q q =>
  ha σ I H L w _ fun v I1 H1 L1 w1 g1 hv => hb σ I1 H1 L1 w1 _ fun u I2 H2 L2 w2 g2 hu =>
    hr I2 H2 v u w2.sub (hv.mono g2.i) hu Q fun o I3 H3 n s ho => q o I3 H3 L2 (w2.new n s) ((g1.trans g2).trans (Guar.new n)) ho
theorem ev_un {r : V → Hp → VK → Prop} (ha : Ev K m ta Γ x Γ1) (hr : UnD K r x z) : Ev K m (tUn r ta) Γ z Γ1 := fun σ I H L w Q q =>
  ha σ I H L w _ fun v I1 H1 L1 w1 g1 hv => hr I1 H1 v w1.sub hv Q fun o I3 H3 n s ho => q o I3 H3 L1 (w1.new n s) (g1.trans (Guar.new n)) ho
/-! arguments -/
theorem ea_nil : EvA K m tNil Γ [] Γ := fun σ I H L w Q q => q [] I H L w Guar.refl .nil
theorem ea_cons {tr : TA} {ds : List D} (ha : Ev K m ta Γ x Γ1) (hr : EvA K m tr Γ1 ds Γ2) : EvA K m (tCons ta tr) Γ (x :: ds) Γ2 := fun σ I H L w Q q =>
  ha σ I H L w _ fun v I1 H1 L1 w1 g1 hv => hr σ I1 H1 L1 w1 _ fun vs I2 H2 L2 w2 g2 hvs => q (v :: vs) I2 H2 L2 w2 (g1.trans g2) (.cons (hv.mono g2.i) hvs)
theorem Wd.alloc {σ : Sg} {I H : Hp} {L : List Addr} {p : Addr} {o : HO} (w : Wd K Γ σ I H L) (hp : H p = none) : New I H (upd I p o) (upd H p o) ∧ Ex (upd I p o) (upd H p o) :=
  ⟨⟨Ex.new (w.sub.back hp), Ex.new hp, fun a u e => by
    by_cases h : a = p
    · subst h; exact .inr hp
    · rw [upd_ne h] at e; exact .inl e⟩, w.sub.upd2 hp⟩
theorem alloc {I H : Hp} {p : Addr} {o : HO} (s : Ex I H) (hp : H p = none) : New I H (upd I p o) (upd H p o) ∧ Ex (upd I p o) (upd H p o) :=
  ⟨⟨Ex.new (s.back hp), Ex.new hp, fun a u e => by
    by_cases h : a = p
    · subst h; exact .inr hp
    · rw [upd_ne h] at e; exact .inl e⟩, s.upd2 hp⟩
theorem ev_tup {ta : TA} {ds : List D} (h : EvA K m ta Γ ds Γ') (hl : ds.length ≤ sizeLine) : Ev K m (tTup ta) Γ (.tup ds) Γ' := fun σ I H L w Q q =>
  h σ I H L w _ fun vs I1 H1 L1 w1 g1 hv => ⟨by rw [hv.length]; exact hl, fun p hp => by
    obtain ⟨n, s⟩ := w1.alloc (o := .tup vs) hp
    exact q _ _ _ _ (w1.new n s) (g1.trans (Guar.new n)) (.tup (st_of upd_same) (hv.mono n.i))⟩
theorem ev_lst {ta : TA} {ds : List D} (h : EvA K m ta Γ ds Γ') (hl : ds.length ≤ sizeLine) : Ev K m (tLst ta) Γ (.lst ds) Γ' := fun σ I H L w Q q =>
  h σ I H L w _ fun vs I1 H1 L1 w1 g1 hv => ⟨by rw [hv.length]; exact hl, fun p hp => by
    obtain ⟨n, s⟩ := w1.alloc (o := .lst vs) hp
    exact q _ _ _ _ (w1.new n s) (g1.trans (Guar.new n)) (.lst (sq_of upd_same) (hv.mono n.i))⟩
/-- a new resource laid at p -/
theorem Wd.allocR {σ : Sg} {I H : Hp} {L : List Addr} {p : Addr} {o : HO} {R : Res} (w : Wd K Γ σ I H L) (hp : H p = none) (hR : R.P I (.ref p) (upd H p o) [p]) :
    Wd K (.res (.ref p) R :: Γ) (some (.ref p) :: σ) I (upd H p o) (p :: L) ∧ Step I H L I (upd H p o) (p :: L) := by
  have hpL : p ∉ L := fun h => w.live p h hp
  refine ⟨⟨.res (L1 := [p]) hR (w.env.keep (Ex.refl I) fun a h => upd_ne fun e => hpL (e ▸ h)), List.nodup_cons.mpr ⟨hpL, w.nd⟩, fun a h => ?_, fun a u e => ?_⟩, ⟨Ex.refl I, fun a u e _ => Ex.new hp a u e, fun a h => ?_, fun a u e => .inl e⟩⟩
  · rcases List.mem_cons.mp h with rfl | h
    · exact w.sub.back hp
    · exact w.fr a h
  · exact Ex.new hp a u (w.sub a u e)
  · rcases List.mem_cons.mp h with rfl | h
    · exact .inr hp
    · exact .inl h
theorem er_lst {ta : TA} {ds : List D} (h : EvA K m ta Γ ds Γ') (hl : ds.length ≤ sizeLine) : EvR K (tLst ta) Γ (Rlst K ds) Γ' := fun σ I H L w Q q =>
  h σ I H L w _ fun vs I1 H1 L1 w1 g1 hv => ⟨by rw [hv.length]; exact hl, fun p hp => by
    obtain ⟨w2, s2⟩ := w1.allocR (o := .lst vs) (R := Rlst K ds) hp ⟨p, vs, rfl, rfl, upd_same, hv⟩
    exact q _ _ _ _ w2 (g1.step.trans s2)⟩
/-- what is at a resource's slot is data from now on -/
theorem Wd.frz {σ : Sg} {I H : Hp} {L : List Addr} {i : Nat} {v : V} {ds : List D} (w : Wd K Γ σ I H L) (hi : Γ[i]? = some (.res v (Rlst K ds))) :
    ∃ I' L', Wd K (Γ.set i (.dat (.lst ds))) σ I' H L' ∧ Step I H L I' H L' ∧ Is K I' v (.lst ds) := by
  obtain ⟨h1, L1, Li, L2, rfl, ⟨a, xs, rfl, rfl, ha, hxs⟩, hk⟩ := w.env.getR hi
  have Ia : I a = none := w.fr a (by simp)
  have ei : Ex I (upd I a (.lst xs)) := Ex.new Ia
  have w0 : EnvOk K (upd I a (.lst xs)) H Γ σ (L1 ++ ([a] ++ L2)) := w.env.keep ei fun _ _ => rfl
  have hd : Is K (upd I a (.lst xs)) (.ref a) (.lst ds) := .lst (sq_of upd_same) (hxs.mono ei)
  have key : ∀ {Γ : List Sl} {σ : Sg} {L : List Addr} {i : Nat}, EnvOk K (upd I a (.lst xs)) H Γ σ L → L.Nodup → Γ[i]? = some (.res (.ref a) (Rlst K ds)) → ∃ L', L'.Sublist L ∧ a ∉ L' ∧ EnvOk K (upd I a (.lst xs)) H (Γ.set i (.dat (.lst ds))) σ L' := by
    intro Γ σ L i e
    induction e generalizing i with
    | nil => intro _ h; simp at h
    | em x e ih =>
      intro nd h
      cases i with
      | zero => simp at h
      | succ i => obtain ⟨L', s, na, r⟩ := ih nd (by simpa using h); exact ⟨L', s, na, .em x r⟩
    | dat p e ih =>
      intro nd h
      cases i with
      | zero => simp at h
      | succ i => obtain ⟨L', s, na, r⟩ := ih nd (by simpa using h); exact ⟨L', s, na, .dat p r⟩
    | @res Γ σ L1 L2 v R p e ih =>
      intro nd h
      have nd' := List.nodup_append.mp nd
      cases i with
      | zero =>
        simp at h
        obtain ⟨rfl, rfl⟩ := h
        obtain ⟨b, ys, e1, rfl, _, _⟩ := p
        cases e1
        exact ⟨L2, List.sublist_append_right _ _, fun h => nd'.2.2 a (by simp) a h rfl, .dat hd e⟩
      | succ i =>
        have h' : Γ[i]? = some (.res (.ref a) (Rlst K ds)) := by simpa using h
        obtain ⟨L', s, na, r⟩ := ih nd'.2.1 h'
        refine ⟨L1 ++ L', List.Sublist.append_left s _, fun h => ?_, .res p r⟩
        rcases List.mem_append.mp h with h | h
        · obtain ⟨_, M1, Mi, M2, hM, ⟨b, ys, e1, rfl, _, _⟩, _⟩ := e.getR h'
          cases e1
          exact nd'.2.2 a h a (by rw [hM]; simp) rfl
        · exact na h
  obtain ⟨L', s, na, r⟩ := key w0 w.nd hi
  have memL : ∀ b, b ∈ L' → b ∈ L1 ++ ([a] ++ L2) := fun b hb => s.subset hb
  refine ⟨upd I a (.lst xs), L', ⟨r, w.nd.sublist s, fun b hb => ?_, fun b o e => ?_⟩, ⟨ei, fun _ _ h _ => h, fun b hb => .inl (memL b hb), fun b o e => ?_⟩, hd⟩
  · have hne : b ≠ a := fun e => na (e ▸ hb)
    rw [upd_ne hne]
    exact w.fr b (memL b hb)
  · by_cases h : b = a
    · subst h; rw [upd_same] at e; cases e; exact ha
    · rw [upd_ne h] at e; exact w.sub b o e
  · by_cases h : b = a
    · subst h; exact .inr (.inl (by simp))
    · rw [upd_ne h] at e; exact .inl e
theorem EvR.frz {ds : List D} (h : EvR K te Γ (Rlst K ds) Γ') : Ev K .e te Γ (.lst ds) Γ' := fun σ I H L w Q q =>
  h σ I H L w Q fun v I1 H1 L1 w1 g1 => by
    obtain ⟨I2, L2, w2, s2, hv⟩ := w1.frz (i := 0) rfl
    have e2 := w2.env
    cases e2 with
    | dat p e => exact q v I2 H1 L2 ⟨e, w2.nd, w2.fr, w2.sub⟩ (Step.trans g1 s2) hv
/-! tests -/
theorem evt_test (h : Ev K m te Γ (.bl b) Γ') : EvT K m (tTest te) Γ b Γ' := fun σ I H L w Q q => h σ I H L w _ fun v I' H' L' w' g hv => by
  cases hv
  exact ⟨b, rfl, q I' H' L' w' g⟩
theorem evt_B (h : Ev K m te Γ (.bl b) Γ') : EvT K m (tB te) Γ b Γ' := fun σ I H L w Q q => h σ I H L w _ fun v I' H' L' w' g hv => by
  cases hv
  exact ⟨b, rfl, q I' H' L' w' g⟩
theorem evt_not (h : EvT K m t Γ b Γ') : EvT K m (tNot t) Γ (!b) Γ' := fun σ I H L w Q q => h σ I H L w _ fun I' H' L' w' g => q I' H' L' w' g
theorem evt_and (h1 : EvT K m t Γ a Γ1) (h2 : a = true → EvT K m u Γ1 b Γ2) (h3 : a = false → Γ1 = Γ2) : EvT K m (tAnd t u) Γ (a && b) Γ2 := fun σ I H L w Q q => h1 σ I H L w _ fun I1 H1 L1 w1 g1 => by
  cases a with
  | true =>
    show u σ H1 Q
    exact h2 rfl σ I1 H1 L1 w1 Q fun I2 H2 L2 w2 g2 => q I2 H2 L2 w2 (g1.trans g2)
  | false =>
    show Q false H1
    cases h3 rfl
    exact q I1 H1 L1 w1 g1
theorem evt_or (h1 : EvT K m t Γ a Γ1) (h2 : a = false → EvT K m u Γ1 b Γ2) (h3 : a = true → Γ1 = Γ2) : EvT K m (tOr t u) Γ (a || b) Γ2 := fun σ I H L w Q q => h1 σ I H L w _ fun I1 H1 L1 w1 g1 => by
  cases a with
  | false =>
    show u σ H1 Q
    exact h2 rfl σ I1 H1 L1 w1 Q fun I2 H2 L2 w2 g2 => q I2 H2 L2 w2 (g1.trans g2)
  | true =>
    show Q true H1
    cases h3 rfl
    exact q I1 H1 L1 w1 g1
theorem ev_andV (h1 : Ev K m ta Γ (.bl a) Γ1) (h2 : a = true → Ev K m tb Γ1 (.bl b) Γ2) (h3 : a = false → Γ1 = Γ2) : Ev K m (tAndV ta tb) Γ (.bl (a && b)) Γ2 := fun σ I H L w Q q => h1 σ I H L w _ fun v I1 H1 L1 w1 g1 hv => by
  cases hv
  refine ⟨a, rfl, ?_⟩
  cases a with
  | true =>
    show tb σ H1 Q
    exact h2 rfl σ I1 H1 L1 w1 Q fun v I2 H2 L2 w2 g2 hv => q v I2 H2 L2 w2 (g1.trans g2) hv
  | false =>
    show Q (.bl false) H1
    cases h3 rfl
    exact q _ I1 H1 L1 w1 g1 (.bl _)
theorem ev_orV (h1 : Ev K m ta Γ (.bl a) Γ1) (h2 : a = false → Ev K m tb Γ1 (.bl b) Γ2) (h3 : a = true → Γ1 = Γ2) : Ev K m (tOrV ta tb) Γ (.bl (a || b)) Γ2 := fun σ I H L w Q q => h1 σ I H L w _ fun v I1 H1 L1 w1 g1 hv => by
  cases hv
  refine ⟨a, rfl, ?_⟩
  cases a with
  | false =>
    show tb σ H1 Q
    exact h2 rfl σ I1 H1 L1 w1 Q fun v I2 H2 L2 w2 g2 hv => q v I2 H2 L2 w2 (g1.trans g2) hv
  | true =>
    show Q (.bl true) H1
    cases h3 rfl
    exact q _ I1 H1 L1 w1 g1 (.bl _)
theorem ev_notV (h1 : Ev K m ta Γ (.bl a) Γ1) : Ev K m (tNotV ta) Γ (.bl (!a)) Γ1 := fun σ I H L w Q q => h1 σ I H L w _ fun v I1 H1 L1 w1 g1 hv => by
  cases hv
  exact ⟨a, rfl, q _ I1 H1 L1 w1 g1 (.bl _)⟩
theorem ev_if (h : EvT K m t Γ b Γ1) (h1 : b = true → Ev K m ta Γ1 d Γ2) (h2 : b = false → Ev K m tb Γ1 d Γ2) : Ev K m (tIf t ta tb) Γ d Γ2 := fun σ I H L w Q q => h σ I H L w _ fun I1 H1 L1 w1 g1 => by
  cases b with
  | true =>
    show ta σ H1 Q
    exact h1 rfl σ I1 H1 L1 w1 Q fun v I2 H2 L2 w2 g2 hv => q v I2 H2 L2 w2 (g1.trans g2) hv
  | false =>
    show tb σ H1 Q
    exact h2 rfl σ I1 H1 L1 w1 Q fun v I2 H2 L2 w2 g2 hv => q v I2 H2 L2 w2 (g1.trans g2) hv
/-! slices' parts -/
theorem eo_none : EvO K m tNoPart Γ none Γ := fun σ I H L w Q q => q I H L w Guar.refl
theorem eo_some {i : Int} (h : Ev K m te Γ (.int i) Γ') : EvO K m (tPart te) Γ (some i) Γ' := fun σ I H L w Q q => h σ I H L w _ fun v I' H' L' w' g hv => by
  cases hv
  exact ⟨i, rfl, q I' H' L' w' g⟩
def SlD (K : PySem.W.Frag) (r : V → Option Int → Option Int → Hp → VK → Prop) (x : D) (lo hi : Option Int) (z : D) : Prop := ∀ I H v, Ex I H → Is K I v x → PureR K I H (r v lo hi) z
theorem ev_sl {r : V → Option Int → Option Int → Hp → VK → Prop} {tl th : TO} {lo hi : Option Int} (h : Ev K m te Γ x Γ1) (h1 : EvO K m tl Γ1 lo Γ2) (h2 : EvO K m th Γ2 hi Γ3) (hr : SlD K r x lo hi z) : Ev K m (tSl r te tl th) Γ z Γ3 := fun σ I H L w Q q =>
  h σ I H L w _ fun v I1 H1 L1 w1 g1 hv => h1 σ I1 H1 L1 w1 _ fun I2 H2 L2 w2 g2 => h2 σ I2 H2 L2 w2 _ fun I3 H3 L3 w3 g3 =>
    hr I3 H3 v w3.sub (hv.mono (g2.trans g3).i) Q fun o I4 H4 n s ho => q o I4 H4 L3 (w3.new n s) ((g1.trans (g2.trans g3)).trans (Guar.new n)) ho
/-! calls of built-ins -/
theorem ev_cb {r : List V → Hp → VK → Prop} {ta : TA} {ds : List D} (h : EvA K m ta Γ ds Γ') (hr : CallD K r ds z) : Ev K m (tCB r ta) Γ z Γ' := fun σ I H L w Q q =>
  h σ I H L w _ fun vs I1 H1 L1 w1 g1 hv => hr I1 H1 vs w1.sub hv Q fun o I3 H3 n s ho => q o I3 H3 L1 (w1.new n s) (g1.trans (Guar.new n)) ho

/-! ### contracts of defs -/
/-- a def with data alone as arguments -/
def Con (K : PySem.W.Frag) (sp : Sp) (pre : List Sl) (d : D) (post : List Sl) : Prop := ∀ vs I H L, Wd K pre (vs.map some) I H L → ∀ (Q : VK) (E : XK), (∀ v I' H' L', Wd K post (vs.map some) I' H' L' → Step I H L I' H' L' → Is K I' v d → Q v H') → sp vs H Q E
def ConR (K : PySem.W.Frag) (sp : Sp) (pre : List Sl) (R : Res) (post : List Sl) : Prop := ∀ vs I H L, Wd K pre (vs.map some) I H L → ∀ (Q : VK) (E : XK), (∀ v I' H' L', Wd K (.res v R :: post) (some v :: vs.map some) I' H' L' → Step I H L I' H' L' → Q v H') → sp vs H Q E
theorem env_dats {I H : Hp} : ∀ {ds : List D} {vs : List V}, IsA K I vs ds → EnvOk K I H (ds.map .dat) (vs.map some) []
  | [], _, h => by cases h; exact .nil
  | d :: ds, _, h => by
    cases h with
    | cons h1 h2 => exact .dat h1 (env_dats h2)
theorem wd_dats {I H : Hp} {ds : List D} {vs : List V} (h : IsA K I vs ds) (s : Ex I H) : Wd K (ds.map .dat) (vs.map some) I H [] := ⟨env_dats h, List.nodup_nil, fun a h => by simp at h, s⟩
theorem Step.toNew {I H I' H' : Hp} {L' : List Addr} (s : Step I H [] I' H' L') : New I H I' H' := ⟨s.i, fun a o h => s.keep a o h (by simp), fun a o h => (s.n a o h).elim .inl fun z => z.elim (fun q => by simp at q) .inr⟩
theorem ev_call0 {sp : Sp} {ds : List D} {E : XK} {ta : TA} {post : List Sl} (h : EvA K m ta Γ ds Γ') (hs : Con K sp (ds.map .dat) z post) : Ev K m (tCall sp [] E ta) Γ z Γ' := fun σ I H L w Q q =>
  h σ I H L w _ fun vs I1 H1 L1 w1 g1 hv => by
    show sp (vs ++ []) H1 Q E
    rw [List.append_nil]
    exact hs vs I1 H1 [] (wd_dats hv w1.sub) Q E fun v I2 H2 L2 w2 s2 hv2 => q v I2 H2 L1 (w1.new s2.toNew w2.sub) (g1.trans (Guar.new s2.toNew)) hv2
/-- the first argument the resource at slot i -/
theorem ev_call1 {sp : Sp} {ds : List D} {E : XK} {ta : TA} {i : Nat} {v : V} {R R' : Res} (h : EvA K m ta Γ ds Γ') (hi : Γ'[i]? = some (.res v R)) (h0 : Γ[i]? = some (.res v R)) (hs : Con K sp (.res v R :: ds.map .dat) z (.res v R' :: ds.map .dat)) :
    Ev K .e (tCall sp [] E (tCons (tVar i) ta)) Γ z (Γ'.set i (.res v R')) := fun σ I H L w Q q => by
  obtain ⟨hσ, _⟩ := w.stepR h0
  refine ⟨v, hσ, ?_⟩
  refine h σ I H L w _ fun vs I1 H1 L1 w1 g1 hv => ?_
  show sp (v :: vs ++ []) H1 Q E
  rw [List.append_nil]
  obtain ⟨_, Li, hp, nd, fr, fin⟩ := w1.stepR hi
  refine hs (v :: vs) I1 H1 Li ⟨?_, nd, fr, w1.sub⟩ Q E fun u I2 H2 L2 w2 s2 hu => ?_
  · have := EnvOk.res (L1 := Li) (L2 := []) hp (env_dats (H := H1) hv)
    rw [List.append_nil] at this
    exact this
  · have e2 := w2.env
    cases e2 with
    | @res _ _ M1 M2 _ _ p e =>
      have hM : M2 = [] := by
        clear w2 s2
        have : ∀ {ds : List D} {vs : Sg} {L : List Addr}, EnvOk K I2 H2 (ds.map .dat) vs L → L = [] := by
          intro ds
          induction ds with
          | nil => intro vs L h; cases h; rfl
          | cons d ds ih => intro vs L h; cases h with | dat _ e => exact ih e
        exact this e
      subst hM
      have s2' : Step I1 H1 Li I2 H2 M1 := by simpa using s2
      have nd2 : M1.Nodup := by simpa using w2.nd
      obtain ⟨L', w3, s3⟩ := fin I2 H2 R' M1 s2' nd2 (fun a h => w2.fr a (by simp [h])) w2.sub p
      exact q u I2 H2 L' w3 (Step.trans g1.step s3) hu

/-! ### statements -/
inductive Out where
  | nx (Γ : List Sl) | lp (Γ : List Sl) | rt (d : D) (Γ : List Sl) | rtR (R : Res) (Γ : List Sl) | bk (Γ : List Sl) | ct (Γ : List Sl)
def Post (K : PySem.W.Frag) (Dn : Ends) (I H : Hp) (L : List Addr) : Out → Prop
  | .nx Γ => ∀ σ' I' H' L', Wd K Γ σ' I' H' L' → Step I H L I' H' L' → Dn.nx σ' H'
  | .lp Γ => ∀ σ' I' H' L', Wd K Γ σ' I' H' L' → Step I H L I' H' L' → Dn.nx σ' H' ∧ Dn.ct σ' H'
  | .bk Γ => ∀ σ' I' H' L', Wd K Γ σ' I' H' L' → Step I H L I' H' L' → Dn.bk σ' H'
  | .ct Γ => ∀ σ' I' H' L', Wd K Γ σ' I' H' L' → Step I H L I' H' L' → Dn.ct σ' H'
  | .rt d Γ => ∀ v σ' I' H' L', Wd K Γ σ' I' H' L' → Step I H L I' H' L' → Is K I' v d → Dn.rt v H'
  | .rtR R Γ => ∀ v σ' I' H' L', Wd K (.res v R :: Γ) (some v :: σ') I' H' L' → Step I H L I' H' L' → Dn.rt v H'
theorem Post.later {Dn : Ends} {I H I1 H1 : Hp} {L L1 : List Addr} (s : Step I H L I1 H1 L1) : ∀ {o : Out}, Post K Dn I H L o → Post K Dn I1 H1 L1 o
  | .nx _, p => fun σ' I' H' L' w g => p σ' I' H' L' w (s.trans g)
  | .lp _, p => fun σ' I' H' L' w g => p σ' I' H' L' w (s.trans g)
  | .bk _, p => fun σ' I' H' L' w g => p σ' I' H' L' w (s.trans g)
  | .ct _, p => fun σ' I' H' L' w g => p σ' I' H' L' w (s.trans g)
  | .rt _ _, p => fun v σ' I' H' L' w g hv => p v σ' I' H' L' w (s.trans g) hv
  | .rtR _ _, p => fun v σ' I' H' L' w g => p v σ' I' H' L' w (s.trans g)
def Run (K : PySem.W.Frag) (ts : TS) (Γ : List Sl) (o : Out) : Prop := ∀ σ I H L, Wd K Γ σ I H L → ∀ Dn : Ends, Post K Dn I H L o → ts Dn σ H
def Out.isNx : Out → Bool
  | .nx _ => true
  | .lp _ => true
  | _ => false
variable {ts tu tw : TS} {o : Out}
theorem Run.is {o' : Out} (h : Run K ts Γ o) (e : o = o') : Run K ts Γ o' := e ▸ h
theorem Run.lp (h : Run K ts Γ (.nx Γ1)) : Run K ts Γ (.lp Γ1) := fun σ I H L w Dn p => h σ I H L w Dn fun σ' I' H' L' w' s => (p σ' I' H' L' w' s).1
theorem Run.lpC (h : Run K ts Γ (.ct Γ1)) : Run K ts Γ (.lp Γ1) := fun σ I H L w Dn p => h σ I H L w Dn fun σ' I' H' L' w' s => (p σ' I' H' L' w' s).2
theorem run_next : Run K tNext Γ (.nx Γ) := fun σ I H L w Dn p => p σ I H L w (Step.refl I H L)
theorem run_seq (h1 : Run K ts Γ (.nx Γ1)) (h2 : Run K tu Γ1 o) : Run K (tSeq ts tu) Γ o := fun σ I H L w Dn p =>
  h1 σ I H L w { Dn with nx := tu Dn } fun σ' I' H' L' w' s => h2 σ' I' H' L' w' Dn (p.later s)
theorem run_end (h1 : Run K ts Γ o) (e : o.isNx = false) : Run K (tSeq ts tu) Γ o := fun σ I H L w Dn p => by
  cases o with
  | nx _ => cases e
  | lp _ => cases e
  | rt d Γ => exact h1 σ I H L w { Dn with nx := tu Dn } p
  | rtR d Γ => exact h1 σ I H L w { Dn with nx := tu Dn } p
  | bk Γ => exact h1 σ I H L w { Dn with nx := tu Dn } p
  | ct Γ => exact h1 σ I H L w { Dn with nx := tu Dn } p
/-- a step that changes what is told alone -/
theorem Run.ghost (g : ∀ σ I H L, Wd K Γ σ I H L → ∃ I' L', Wd K Γ1 σ I' H L' ∧ Step I H L I' H L') (h : Run K ts Γ1 o) : Run K ts Γ o := fun σ I H L w Dn p => by
  obtain ⟨I', L', w', s⟩ := g σ I H L w
  exact h σ I' H L' w' Dn (p.later s)
theorem Run.frz {i : Nat} {v : V} {ds : List D} (hi : Γ[i]? = some (.res v (Rlst K ds))) (h : Run K ts (Γ.set i (.dat (.lst ds))) o) : Run K ts Γ o :=
  Run.ghost (fun σ I H L w => let ⟨I', L', w', s, _⟩ := w.frz hi; ⟨I', L', w', s⟩) h
theorem Run.weak (k : Wk Γ Γ1) (h : Run K ts Γ1 o) : Run K ts Γ o := Run.ghost (fun σ I H L w => let ⟨L', w', s⟩ := w.weak k; ⟨I, L', w', s⟩) h
theorem Run.nxWeak (h : Run K ts Γ (.nx Γ1)) (k : Wk Γ1 Γ2) : Run K ts Γ (.nx Γ2) := fun σ I H L w Dn p => h σ I H L w Dn fun σ' I' H' L' w' s => by
  obtain ⟨L2, w2, s2⟩ := w'.weak k
  exact p σ' I' H' L2 w2 (s.trans s2)
theorem run_asg {i : Nat} (h : Ev K m te Γ d Γ1) : Run K (tAsg te (gName i)) Γ (.nx (Γ1.set i (.dat d))) := fun σ I H L w Dn p => h σ I H L w _ fun v I1 H1 L1 w1 g1 hv => by
  obtain ⟨L2, w2, s2⟩ := w1.setD hv i
  exact p _ I1 H1 L2 w2 (g1.step.trans s2)
theorem Wd.setR {σ : Sg} {I H : Hp} {L : List Addr} {i : Nat} {v : V} {R : Res} (w : Wd K (.res v R :: Γ) (some v :: σ) I H L) (hi : i < Γ.length) : ∃ L', Wd K (Γ.set i (.res v R)) (σ.set i (some v)) I H L' ∧ Step I H L I H L' := by
  have key : ∀ {Γ : List Sl} {σ : Sg} {L2 : List Addr} {i : Nat} {L1 : List Addr}, i < Γ.length → EnvOk K I H Γ σ L2 → R.P I v H L1 → (L1 ++ L2).Nodup → ∃ L', L'.Nodup ∧ (∀ a ∈ L', a ∈ L1 ++ L2) ∧ EnvOk K I H (Γ.set i (.res v R)) (σ.set i (some v)) L' := by
    intro Γ σ L2 i L1 hi e hp
    induction e generalizing i with
    | nil => simp at hi
    | em x e ih =>
      intro nd
      cases i with
      | zero => exact ⟨_, nd, fun a h => h, .res hp e⟩
      | succ i => obtain ⟨L', n, s, r⟩ := ih (by simpa using hi) nd; exact ⟨L', n, s, .em x r⟩
    | dat p e ih =>
      intro nd
      cases i with
      | zero => exact ⟨_, nd, fun a h => h, .res hp e⟩
      | succ i => obtain ⟨L', n, s, r⟩ := ih (by simpa using hi) nd; exact ⟨L', n, s, .dat p r⟩
    | @res Γ σ M1 M2 v0 R0 p e ih =>
      intro nd
      have nd1 := List.nodup_append.mp nd
      have nd2 := List.nodup_append.mp nd1.2.1
      have ndx : (L1 ++ M2).Nodup := List.nodup_append.mpr ⟨nd1.1, nd2.2.1, fun a h b hb => nd1.2.2 a h b (by simp [hb])⟩
      cases i with
      | zero => exact ⟨_, ndx, fun a h => by simp at h ⊢; rcases h with h | h; exact .inl h; exact .inr (.inr h), .res hp e⟩
      | succ i =>
        obtain ⟨L', n, s, r⟩ := ih (by simpa using hi) ndx
        refine ⟨M1 ++ L', List.nodup_append.mpr ⟨nd2.1, n, fun a h b hb e => ?_⟩, fun a h => ?_, .res p r⟩
        · subst e
          rcases List.mem_append.mp (s a hb) with q | q
          · exact nd1.2.2 a q a (by simp [h]) rfl
          · exact nd2.2.2 a h a q rfl
        · rcases List.mem_append.mp h with h | h
          · simp [h]
          · have := s a h; simp at this ⊢; rcases this with q | q; exact .inl q; exact .inr (.inr q)
  have e := w.env
  cases e with
  | @res _ _ L1 L2 _ _ p e =>
    obtain ⟨L', n, s, r⟩ := key hi e p w.nd
    exact ⟨L', ⟨r, n, fun a h => w.fr a (s a h), w.sub⟩, ⟨Ex.refl I, fun _ _ h _ => h, fun a h => .inl (s a h), fun _ _ h => .inl h⟩⟩
/-- x = a new resource, then the rest -/
theorem run_asgR {i : Nat} {R : Res} (h : EvR K te Γ R Γ1) (hi : i < Γ1.length) (k : ∀ v, Run K tu (Γ1.set i (.res v R)) o) : Run K (tSeq (tAsg te (gName i)) tu) Γ o := fun σ I H L w Dn p =>
  h σ I H L w _ fun v I1 H1 L1 w1 g1 => by
    obtain ⟨L2, w2, s2⟩ := w1.setR hi
    exact k v _ I1 H1 L2 w2 Dn (p.later (g1.trans s2))
theorem run_ret (h : Ev K m te Γ d Γ1) : Run K (tRet te) Γ (.rt d Γ1) := fun σ I H L w Dn p => h σ I H L w _ fun v I1 H1 L1 w1 g1 hv => p v σ I1 H1 L1 w1 g1.step hv
theorem run_retR {R : Res} (h : EvR K te Γ R Γ1) : Run K (tRet te) Γ (.rtR R Γ1) := fun σ I H L w Dn p => h σ I H L w _ fun v I1 H1 L1 w1 g1 => p v σ I1 H1 L1 w1 g1
theorem run_retN : Run K tRetN Γ (.rt .non Γ) := fun σ I H L w Dn p => p .non σ I H L w (Step.refl I H L) .non
theorem run_drop (h : Ev K m te Γ d Γ1) : Run K (tDrop te) Γ (.nx Γ1) := fun σ I H L w Dn p => h σ I H L w _ fun v I1 H1 L1 w1 g1 hv => p σ I1 H1 L1 w1 g1.step
theorem run_brk : Run K tBreak Γ (.bk Γ) := fun σ I H L w Dn p => p σ I H L w (Step.refl I H L)
theorem run_cont : Run K tCont Γ (.ct Γ) := fun σ I H L w Dn p => p σ I H L w (Step.refl I H L)
theorem run_if (h : EvT K m t Γ b Γ1) (h1 : b = true → Run K ts Γ1 o) (h2 : b = false → Run K tu Γ1 o) : Run K (tIfS t ts tu) Γ o := fun σ I H L w Dn p => h σ I H L w _ fun I1 H1 L1 w1 g1 => by
  cases b with
  | true =>
    show ts Dn σ H1
    exact h1 rfl σ I1 H1 L1 w1 Dn (p.later g1.step)
  | false =>
    show tu Dn σ H1
    exact h2 rfl σ I1 H1 L1 w1 Dn (p.later g1.step)
/-- if .. whose one way goes on and whose other way may leave, then the rest -/
theorem run_ifSeq (h : EvT K m t Γ b Γ1) (h1 : b = true → Run K (tSeq ts tw) Γ1 o) (h2 : b = false → Run K (tSeq tu tw) Γ1 o) : Run K (tSeq (tIfS t ts tu) tw) Γ o := fun σ I H L w Dn p => h σ I H L w _ fun I1 H1 L1 w1 g1 => by
  cases b with
  | true =>
    show ts { Dn with nx := tw Dn } σ H1
    exact h1 rfl σ I1 H1 L1 w1 Dn (p.later g1.step)
  | false =>
    show tu { Dn with nx := tw Dn } σ H1
    exact h2 rfl σ I1 H1 L1 w1 Dn (p.later g1.step)
theorem run_nextSeq (h : Run K ts Γ o) : Run K (tSeq tNext ts) Γ o := fun σ I H L w Dn p => h σ I H L w Dn p
end
end FD

/-! FD2: walks: for loops, comprehensions. -/
namespace FD
open PySem PySem.Spec PyProof.Rows L2

def Sl.isRes : Sl → Bool
  | .res _ _ => true
  | _ => false
def Sl.isEm : Sl → Bool
  | .em => true
  | _ => false
/-- what a walk gives: the data ds, one a turn -/
def ItD (K : PySem.W.Frag) (m : Md) (wi : TI) (Γ : List Sl) (ds : List D) (Γ1 : List Sl) : Prop :=
  ∀ σ I H L, Wd K Γ σ I H L → ∀ R : It → Hp → Prop, (∀ J I1 H1 L1 (G : Hp → Prop) Y, Wd K Γ1 σ I1 H1 L1 → Guar m I H L I1 H1 L1 → (∀ H', Ex I1 H' → G H') → Walk J ds.length G Y →
    (∀ i I2 H2 x H3, i < ds.length → Ex I1 I2 → Ex I2 H2 → Y i H2 x H3 → ∃ d I3, ds[i]? = some d ∧ New I2 H2 I3 H3 ∧ Ex I3 H3 ∧ Is K I3 x d) → R J H1) → wi σ H R
/-- a target takes a value -/
def RunG (K : PySem.W.Frag) (g : TG) (js : List Nat) (d : D) (Γ Γ' : List Sl) : Prop := ∀ v σ I H L, Wd K Γ σ I H L → Is K I v d → ∀ Q : Sg → Hp → Prop,
  (∀ σ', Wd K Γ' σ' I H L → (∀ vs : List Nat, (∀ j ∈ js, j ∈ vs) → wipe σ' vs = wipe σ vs) → Q σ' H) → g v σ H Q
def RunGs (K : PySem.W.Frag) (g : TGs) (js : List Nat) (ds : List D) (Γ Γ' : List Sl) : Prop := ∀ vs σ I H L, Wd K Γ σ I H L → IsA K I vs ds → ∀ Q : Sg → Hp → Prop,
  (∀ σ', Wd K Γ' σ' I H L → (∀ vs : List Nat, (∀ j ∈ js, j ∈ vs) → wipe σ' vs = wipe σ vs) → Q σ' H) → g vs σ H Q
/-- a turn of a for -/
def Turn (K : PySem.W.Frag) (g : TG) (tb : TS) (d : D) (Γ : List Sl) (o : Out) : Prop := ∀ v σ I H L, Wd K Γ σ I H L → Is K I v d → ∀ Dn : Ends, Post K Dn I H L o → g v σ H fun σ2 H2 => tb Dn σ2 H2

section
variable {K : PySem.W.Frag} {m : Md} {Γ Γ' Γ1 Γ2 Γ3 : List Sl} {ta tb te tx tl : TE} {t u : TT} {x y z d : D} {r : R2} {a b c : Bool} {I H I' H' : Hp} {L L' : List Addr}

theorem EnvOk.setN {v : V} {d : D} (q : Is K I v d) : ∀ {Γ : List Sl} {σ : Sg} {L : List Addr} (i : Nat), (Γ[i]?.any Sl.isRes) = false → EnvOk K I H Γ σ L → EnvOk K I H (Γ.set i (.dat d)) (σ.set i (some v)) L
  | _, _, _, _, _, .nil => .nil
  | _, _, _, 0, _, .em _ e => .dat q e
  | _, _, _, 0, _, .dat _ e => .dat q e
  | _, _, _, 0, h, .res (L1 := L1) _ e => by simp [Sl.isRes] at h
  | _, _, _, i + 1, h, .em x e => .em x (EnvOk.setN q i (by simpa using h) e)
  | _, _, _, i + 1, h, .dat p e => .dat p (EnvOk.setN q i (by simpa using h) e)
  | _, _, _, i + 1, h, .res (L1 := L1) p e => .res p (EnvOk.setN q i (by simpa using h) e)
/-- the values of forgotten slots do not matter -/
theorem EnvOk.setX (y : Option V) : ∀ {Γ : List Sl} {σ : Sg} {L : List Addr} (i : Nat), (Γ[i]?.all Sl.isEm) = true → EnvOk K I H Γ σ L → EnvOk K I H Γ (σ.set i y) L
  | _, _, _, _, _, .nil => .nil
  | _, _, _, 0, _, .em _ e => .em _ e
  | _, _, _, 0, h, .dat _ e => by simp [Sl.isEm] at h
  | _, _, _, 0, h, .res (L1 := L1) _ e => by simp [Sl.isEm] at h
  | _, _, _, i + 1, h, .em x e => .em x (EnvOk.setX y i (by simpa using h) e)
  | _, _, _, i + 1, h, .dat p e => .dat p (EnvOk.setX y i (by simpa using h) e)
  | _, _, _, i + 1, h, .res (L1 := L1) p e => .res p (EnvOk.setX y i (by simpa using h) e)
theorem EnvOk.wipe {σ : Sg} (h : EnvOk K I H Γ σ L) : ∀ {vs : List Nat}, (∀ k ∈ vs, (Γ[k]?.all Sl.isEm) = true) → EnvOk K I H Γ (wipe σ vs) L
  | [], _ => h
  | v :: vs, q => EnvOk.setX none v (q v (by simp)) (EnvOk.wipe h fun k hk => q k (by simp [hk]))
theorem EnvOk.unset (y : Option V) : ∀ {Γ : List Sl} {σ : Sg} {L : List Addr} (i : Nat), (Γ[i]?.all Sl.isEm) = true → EnvOk K I H Γ (σ.set i y) L → EnvOk K I H Γ σ L
  | _, [], _, _, _, e => by simpa using e
  | _, s :: σ, _, 0, h, e => by
    rw [List.set_cons_zero] at e
    cases e with
    | em _ e => exact .em _ e
    | dat _ e => simp [Sl.isEm] at h
    | res _ e => simp [Sl.isEm] at h
  | _, s :: σ, _, i + 1, h, e => by
    rw [List.set_cons_succ] at e
    cases e with
    | em _ e => exact .em _ (EnvOk.unset y i (by simpa using h) e)
    | dat p e => exact .dat p (EnvOk.unset y i (by simpa using h) e)
    | res p e => exact .res p (EnvOk.unset y i (by simpa using h) e)
theorem EnvOk.unwipe {σ : Sg} : ∀ {vs : List Nat}, (∀ k ∈ vs, (Γ[k]?.all Sl.isEm) = true) → EnvOk K I H Γ (L2.wipe σ vs) L → EnvOk K I H Γ σ L
  | [], _, h => h
  | v :: vs, q, h => EnvOk.unwipe (fun k hk => q k (by simp [hk])) (EnvOk.unset none v (q v (by simp)) h)
theorem set_comm' {α : Type} (l : List α) (i j : Nat) (x : α) : (l.set i x).set j x = (l.set j x).set i x := by
  by_cases h : i = j
  · subst h; rfl
  · exact List.set_comm x x h
theorem wipe_set_mem : ∀ {vs : List Nat} {σ : Sg} {j : Nat} {y : Option V}, j ∈ vs → wipe (σ.set j y) vs = wipe σ vs
  | [], _, _, _, h => by simp at h
  | v :: vs, σ, j, y, h => by
    by_cases hj : j ∈ vs
    · show (wipe (σ.set j y) vs).set v none = (wipe σ vs).set v none
      rw [wipe_set_mem hj]
    · have e : j = v := by simpa [hj] using h
      subst e
      have sw : ∀ (vs : List Nat) (σ : Sg), j ∉ vs → wipe (σ.set j y) vs = (wipe σ vs).set j y := by
        intro vs
        induction vs with
        | nil => intro σ _; rfl
        | cons w ws ih =>
          intro σ h
          simp only [List.mem_cons, not_or] at h
          show (wipe (σ.set j y) ws).set w none = ((wipe σ ws).set w none).set j y
          rw [ih σ h.2, List.set_comm _ _ h.1]
      show (wipe (σ.set j y) vs).set j none = (wipe σ vs).set j none
      rw [sw vs σ hj, List.set_set]
theorem wipe_set_self (vs : List Nat) (σ : Sg) (v : Nat) : wipe (σ.set v none) vs = (wipe σ vs).set v none := by
  induction vs generalizing σ with
  | nil => rfl
  | cons w ws ih =>
    show (wipe (σ.set v none) ws).set w none = ((wipe σ ws).set w none).set v none
    rw [ih, set_comm']
theorem wipe_idem (vs : List Nat) (σ : Sg) : wipe (wipe σ vs) vs = wipe σ vs := by
  induction vs generalizing σ with
  | nil => rfl
  | cons v vs ih =>
    show (wipe ((wipe σ vs).set v none) vs).set v none = (wipe σ vs).set v none
    rw [wipe_set_self, ih, List.set_set]

/-! targets -/
theorem rg_name {j : Nat} (h : (Γ[j]?.any Sl.isRes) = false) : RunG K (gName j) [j] d Γ (Γ.set j (.dat d)) := fun v σ I H L w hv Q q =>
  q _ ⟨w.env.setN hv j h, w.nd, w.fr, w.sub⟩ fun vs hj => wipe_set_mem (hj j (by simp))
theorem rg_nil : RunGs K gNil [] [] Γ Γ := fun vs σ I H L w hv Q q => by
  cases hv
  exact ⟨rfl, q σ w fun _ _ => rfl⟩
theorem rg_cons {g : TG} {gs : TGs} {js ks : List Nat} {ds : List D} (h : RunG K g js d Γ Γ1) (h2 : RunGs K gs ks ds Γ1 Γ2) : RunGs K (gCons g gs) (js ++ ks) (d :: ds) Γ Γ2 := fun vs σ I H L w hv Q q => by
  cases hv with
  | cons hv1 hv2 => exact ⟨_, _, rfl, h _ σ I H L w hv1 _ fun σ1 w1 e1 => h2 _ σ1 I H L w1 hv2 _ fun σ2 w2 e2 => q σ2 w2 fun vs hj => (e2 vs fun j h => hj j (by simp [h])).trans (e1 vs fun j h => hj j (by simp [h]))⟩
theorem rg_tup {n : Nat} {gs : TGs} {js : List Nat} {ds : List D} (h : RunGs K gs js ds Γ Γ1) (hn : ds.length = n) : RunG K (gTup K n gs) js (.tup ds) Γ Γ1 := fun v σ I H L w hv Q q => by
  cases hv with
  | tup h1 h2 => exact ⟨_, _, rfl, w.sub.t h1, by rw [h2.length]; exact hn, h _ σ I H L w h2 Q q⟩
theorem turn_g {g : TG} {js : List Nat} {ts : TS} {o : Out} (h : RunG K g js d Γ Γ1) (k : Run K ts Γ1 o) : Turn K g ts d Γ o := fun v σ I H L w hv Dn p => h v σ I H L w hv _ fun σ' w' _ => k σ' I H L w' Dn p
theorem Turn.ghost {g : TG} {ts : TS} {o : Out} (gh : ∀ σ I H L, Wd K Γ σ I H L → ∃ I' L', Wd K Γ1 σ I' H L' ∧ Step I H L I' H L') (h : Turn K g ts d Γ1 o) : Turn K g ts d Γ o := fun v σ I H L w hv Dn p => by
  obtain ⟨I', L', w', s⟩ := gh σ I H L w
  exact h v σ I' H L' w' (hv.mono s.i) Dn (p.later s)

/-! what walks -/
theorem it_list {ds : List D} (h : Ev K m tl Γ (.lst ds) Γ1) : ItD K m (iList K tl) Γ ds Γ1 := fun σ I H L w R k => h σ I H L w _ fun v I1 H1 L1 w1 g1 hv => by
  cases hv with
  | lst hs ha =>
    rename_i a xs
    have hl := ha.length
    refine ⟨a, rfl, ⟨xs, (w1.sub.l hs)⟩, k _ I1 H1 L1 (fun H' => SqL K H' a xs) (YAt xs) w1 g1 (fun H' e => e.l hs) (hl ▸ walk_list) fun i I2 H2 x H3 hi e1 e2 y => ?_⟩
    obtain ⟨rfl, hx⟩ := y
    obtain ⟨d, hd, hv⟩ := ha.get hx
    exact ⟨d, I2, hd, New.refl I2 _, e2, hv.mono e1⟩
theorem it_tup {ds : List D} (h : Ev K m tl Γ (.tup ds) Γ1) : ItD K m (iTup K tl) Γ ds Γ1 := fun σ I H L w R k => h σ I H L w _ fun v I1 H1 L1 w1 g1 hv => by
  cases hv with
  | tup hs ha =>
    rename_i a xs
    have hl := ha.length
    refine ⟨a, rfl, ⟨xs, w1.sub.t hs⟩, k _ I1 H1 L1 _ (YAt xs) w1 g1 (fun H' e => e.t hs) (hl ▸ walk_tup) fun i I2 H2 x H3 hi e1 e2 y => ?_⟩
    obtain ⟨rfl, hx⟩ := y
    obtain ⟨d, hd, hv⟩ := ha.get hx
    exact ⟨d, I2, hd, New.refl I2 _, e2, hv.mono e1⟩
def intsD (lo : Int) (n : Nat) : List D := (List.range n).map fun i => .int (lo + (i : Nat))
theorem it_rng1 {ta : TA} {n : Int} (h : EvA K m ta Γ [.int n] Γ1) (hn : -(2 ^ 62) ≤ n ∧ n < 2 ^ 62) : ItD K m (iRng1 ta) Γ (intsD 0 n.toNat) Γ1 := fun σ I H L w R k => h σ I H L w _ fun vs I1 H1 L1 w1 g1 hv => by
  cases hv with
  | cons h1 h2 =>
    cases h1
    cases h2
    refine ⟨n, rfl, hn.1, hn.2, k _ I1 H1 L1 (fun _ => True) (YFn fun i => .int (0 + (i : Nat))) w1 g1 (fun _ _ => trivial) (by simp only [intsD, List.length_map, List.length_range]; exact walk_range) fun i I2 H2 x H3 hi e1 e2 y => ?_⟩
    obtain ⟨rfl, rfl⟩ := y
    have hi' : i < n.toNat := by simpa [intsD] using hi
    exact ⟨.int (0 + (i : Nat)), I2, by simp [intsD, hi'], New.refl I2 _, e2, .int _⟩
theorem it_rng2 {ta : TA} {lo n : Int} (h : EvA K m ta Γ [.int lo, .int n] Γ1) (hn : -(2 ^ 62) ≤ lo ∧ lo < 2 ^ 62 ∧ -(2 ^ 62) ≤ n ∧ n < 2 ^ 62) : ItD K m (iRng2 ta) Γ (intsD lo (n - lo).toNat) Γ1 := fun σ I H L w R k => h σ I H L w _ fun vs I1 H1 L1 w1 g1 hv => by
  cases hv with
  | cons h1 h2 =>
    cases h1
    cases h2 with
    | cons h2 h3 =>
      cases h2
      cases h3
      refine ⟨lo, n, rfl, hn, k _ I1 H1 L1 (fun _ => True) (YFn fun i => .int (lo + (i : Nat))) w1 g1 (fun _ _ => trivial) (by simp only [intsD, List.length_map, List.length_range]; exact walk_range) fun i I2 H2 x H3 hi e1 e2 y => ?_⟩
      obtain ⟨rfl, rfl⟩ := y
      have hi' : i < (n - lo).toNat := by simpa [intsD] using hi
      exact ⟨.int (lo + (i : Nat)), I2, by simp [intsD, hi'], New.refl I2 _, e2, .int _⟩
def enumD (ds : List D) : List D := ds.zipIdx.map fun p => .tup [.int (p.2 : Nat), p.1]
theorem it_enum {ta : TA} {ds : List D} (h : EvA K m ta Γ [.lst ds] Γ1) : ItD K m (iEnum K ta) Γ (enumD ds) Γ1 := fun σ I H L w R k => h σ I H L w _ fun vs I1 H1 L1 w1 g1 hv => by
  cases hv with
  | cons h1 h2 =>
    cases h2
    cases h1 with
    | lst hs ha =>
      rename_i a xs
      have hl := ha.length
      refine ⟨a, xs, rfl, (w1.sub.l hs), k _ I1 H1 L1 (fun H' => SqL K H' a xs) _ w1 g1 (fun H' e => e.l hs) (by simp only [enumD, List.length_map, List.length_zipIdx, ← hl]; exact walk_enum) fun i I2 H2 v H3 hi e1 e2 y => ?_⟩
      obtain ⟨T, x, z, rfl, hT, rfl, hx, hz⟩ := y
      cases hx
      obtain ⟨d, hd, hv⟩ := ha.get hz
      have hdl : i < ds.length := by simpa [enumD] using hi
      obtain ⟨n, s⟩ := alloc (o := .tup [.int (i : Nat), z]) e2 hT
      refine ⟨.tup [.int (i : Nat), d], _, ?_, n, s, .tup (st_of upd_same) (.cons (.int _) (.cons ((hv.mono e1).mono n.i) .nil))⟩
      have hdd : ds[i] = d := by
        rw [List.getElem?_eq_getElem hdl] at hd
        exact Option.some.inj hd
      simp [enumD, hdl, hdd]
/-- a text's signs -/
def signs (s : Str) : List D := s.cps.toList.map fun c => .str ⟨#[c]⟩
theorem it_str {s : Str} (h : Ev K m tl Γ (.str s) Γ1) : ItD K m (iStr tl) Γ (signs s) Γ1 := fun σ I H L w R k => h σ I H L w _ fun v I1 H1 L1 w1 g1 hv => by
  cases hv
  refine ⟨s, rfl, k _ I1 H1 L1 (fun _ => True) _ w1 g1 (fun _ _ => trivial) (by simp only [signs, List.length_map, Array.length_toList]; exact walk_str) fun i I2 H2 x H3 hi e1 e2 y => ?_⟩
  obtain ⟨rfl, c, hc, rfl⟩ := y
  exact ⟨.str ⟨#[c]⟩, I2, by simp [signs, hc], New.refl I2 _, e2, .str _⟩

/-! for -/
theorem run_for {wi : TI} {g : TG} {ts : TS} {ds : List D} {n : Nat} {o : Out} (G : Nat → List Sl) (hit : ItD K m wi Γ ds Γ1) (h0 : Γ1 = G 0) (hn : n ≤ ds.length) (hs : ∀ i d, i < n → ds[i]? = some d → Turn K g ts d (G i) (.lp (G (i + 1))))
    (hx : (n = ds.length ∧ o = .nx (G n)) ∨ (n < ds.length ∧ ∃ o', (∀ d, ds[n]? = some d → Turn K g ts d (G n) o') ∧ match o' with
      | .rt _ _ => o = o'
      | .rtR _ _ => o = o'
      | .bk Γb => o = .nx Γb
      | _ => False)) : Run K (tFor wi g ts) Γ o := fun σ I H L w Dn p => hit σ I H L w _ fun J I1 H1 L1 Gd Y w1 g1 hG hw hy => by
  subst h0
  refine for_it hw (fun i σ' H' => i ≤ n ∧ ∃ I' L', Wd K (G i) σ' I' H' L' ∧ Step I1 H1 L1 I' H' L') ⟨Nat.zero_le _, I1, L1, w1, Step.refl _ _ _⟩ (fun i σ' H' _ q => ?_) (fun i x σ' H' H2 hi q y => ?_) fun σ' H' q => ?_
  · obtain ⟨_, I', L', w', s'⟩ := q
    exact hG H' (s'.i.trans w'.sub)
  · obtain ⟨hin, I', L', w', s'⟩ := q
    obtain ⟨d, I3, hd, n3, e3, hv⟩ := hy i I' H' x H2 hi s'.i w'.sub y
    have w3 := w'.new n3 e3
    have s3 : Step I1 H1 L1 I3 H2 L' := s'.trans (n3.step L')
    by_cases hlt : i < n
    · refine hs i d hlt hd x σ' I3 H2 L' w3 hv _ fun σ4 I4 H4 L4 w4 s4 => ?_
      exact ⟨⟨hlt, I4, L4, w4, s3.trans s4⟩, ⟨hlt, I4, L4, w4, s3.trans s4⟩⟩
    · have e : i = n := by omega
      subst e
      rcases hx with ⟨rfl, _⟩ | ⟨_, o', ho, hm⟩
      · exact absurd hi (Nat.lt_irrefl _)
      · have pl := p.later (g1.step.trans s3)
        refine ho d hd x σ' I3 H2 L' w3 hv _ ?_
        cases o' with
        | rt d Γ => subst hm; exact pl
        | rtR d Γ => subst hm; exact pl
        | bk Γ => subst hm; exact pl
        | nx _ => exact hm.elim
        | lp _ => exact hm.elim
        | ct _ => exact hm.elim
  · obtain ⟨hin, I', L', w', s'⟩ := q
    rcases hx with ⟨rfl, rfl⟩ | ⟨h, _⟩
    · exact p σ' I' H' L' w' (g1.step.trans s')
    · omega
/-- all turns go on; the state by a fold -/
theorem run_forFold {wi : TI} {g : TG} {ts : TS} {α S : Type} {xs : List α} {enc : α → D} (G : S → List Sl) (step : S → α → S) (P : S → Prop) (s0 : S) (hit : ItD K m wi Γ (xs.map enc) Γ1) (h0 : Γ1 = G s0) (hP : P s0) (hPs : ∀ s x, P s → x ∈ xs → P (step s x))
    (hs : ∀ s x, P s → x ∈ xs → Turn K g ts (enc x) (G s) (.lp (G (step s x)))) : Run K (tFor wi g ts) Γ (.nx (G (xs.foldl step s0))) := by
  have hPi : ∀ i, P ((xs.take i).foldl step s0) := by
    intro i
    induction i with
    | zero => simpa using hP
    | succ i ih =>
      by_cases hi : i < xs.length
      · rw [List.take_succ_eq_append_getElem hi, List.foldl_append]
        exact hPs _ _ ih (List.getElem_mem hi)
      · rw [List.take_of_length_le (by omega)]
        rw [List.take_of_length_le (by omega)] at ih
        exact ih
  refine run_for (n := xs.length) (fun i => G ((xs.take i).foldl step s0)) hit h0 (by simp) (fun i d hi hd => ?_) (.inl ⟨by simp, by simp⟩)
  rw [List.getElem?_map, List.getElem?_eq_getElem hi] at hd
  cases hd
  rw [List.take_succ_eq_append_getElem hi, List.foldl_append]
  exact hs _ _ (hPi i) (List.getElem_mem hi)

/-! comprehensions that change nothing -/
theorem ev_lc {wi : TI} {g : TG} {tt : TT} {vs js : List Nat} {α : Type} {xs : List α} {enc : α → D} (p : α → Bool) (w : α → D) (Γi Γx : α → List Sl) (hit : ItD K m wi Γ (xs.map enc) Γ1) (hem : ∀ k ∈ vs, (Γ1[k]?.all Sl.isEm) = true) (hj : ∀ j ∈ js, j ∈ vs) (hz : xs.length < sizeLine)
    (hg : ∀ x ∈ xs, RunG K g js (enc x) Γ1 (Γi x)) (ht : ∀ x ∈ xs, EvT K .p tt (Γi x) (p x) (Γx x)) (he : ∀ x ∈ xs, p x = true → ∃ Γy, Ev K .p te (Γx x) (w x) Γy) :
    Ev K m (tLc wi g tt te vs) Γ (.lst ((xs.filter p).map w)) Γ1 := fun σ I H L W0 Q q => hit σ I H L W0 _ fun J I1 H1 L1 Gd Y w1 g1 hG hw hy Dl hD => by
  have lenF : ∀ i, (((xs.take i).filter p).map w).length ≤ i := fun i => by
    rw [List.length_map]
    exact Nat.le_trans (List.length_filter_le _ _) (by rw [List.length_take]; exact Nat.min_le_left _ _)
  refine lc_it hw (fun i H' => ∃ I' acc, New I1 H1 I' H' ∧ Ex I' H' ∧ I' Dl = none ∧ H' Dl = some (.lst acc) ∧ IsA K I' acc (((xs.take i).filter p).map w)) ?_ (fun i H' _ q => ?_) (fun i x H' H2 hi q y => ?_) fun H' q' => ?_
  · refine ⟨I1, [], ⟨Ex.refl I1, Ex.new hD, fun a o h => .inl h⟩, fun a o h => Ex.new hD a o (w1.sub a o h), w1.sub.back hD, upd_same, ?_⟩
    simp
    exact .nil
  · obtain ⟨I', acc, n, e, _⟩ := q
    exact hG H' (n.i.trans e)
  · obtain ⟨I', acc, n, e, hID, hHD, hA⟩ := q
    obtain ⟨d, I3, hd, n3, e3, hv⟩ := hy i I' H' x H2 hi n.i e y
    have hix : i < xs.length := by simpa using hi
    rw [List.getElem?_map, List.getElem?_eq_getElem hix] at hd
    cases hd
    have hmem := List.getElem_mem hix
    have nn := n.trans n3
    have w3 : Wd K Γ1 (wipe σ vs) I3 H2 L1 := by
      have := w1.new nn e3
      exact ⟨this.env.wipe hem, this.nd, this.fr, this.sub⟩
    have hD2 : H2 Dl = some (.lst acc) := n3.h _ _ hHD
    have hI3 : I3 Dl = none := by
      cases q : I3 Dl with
      | none => rfl
      | some o =>
        rcases n3.n Dl o q with z | z
        · rw [hID] at z; cases z
        · rw [hHD] at z; cases z
    refine hg _ hmem x _ I3 H2 L1 w3 hv _ fun σ2 w4 e4 => ⟨(e4 vs hj).trans (wipe_idem vs σ), ?_⟩
    refine ht _ hmem σ2 I3 H2 L1 w4 _ fun I5 H5 L5 w5 g5 => ?_
    obtain ⟨n5, rfl⟩ := g5
    have out : ∀ {I6 H6 : Hp}, New I3 H2 I6 H6 → I6 Dl = none := fun {I6 H6} n6 => by
      cases q : I6 Dl with
      | none => rfl
      | some o =>
        rcases n6.n Dl o q with z | z
        · rw [hI3] at z; cases z
        · rw [hD2] at z; cases z
    cases hp : p xs[i] with
    | false =>
      show ∃ I' acc, _
      refine ⟨I5, acc, nn.trans n5, w5.sub, out n5, n5.h _ _ hD2, ?_⟩
      rw [List.take_succ_eq_append_getElem hix, List.filter_append, List.filter_cons, if_neg (by rw [hp]; decide)]
      simp only [List.filter_nil, List.append_nil]
      exact hA.mono (n3.i.trans n5.i)
    | true =>
      obtain ⟨Γy, hE⟩ := he _ hmem hp
      show te σ2 H5 _
      refine hE σ2 I5 H5 _ w5 _ fun v I6 H6 L6 w6 g6 hv6 => ?_
      obtain ⟨n6, rfl⟩ := g6
      have n56 := n5.trans n6
      have hD6 : H6 Dl = some (.lst acc) := n56.h _ _ hD2
      have hI6 := out n56
      have hla := hA.length
      refine ⟨acc, hD6, by rw [hla]; exact Nat.lt_of_le_of_lt (lenF i) (by omega), I6, acc ++ [v], ⟨(nn.trans n56).i, fun a o h => ?_, fun a o h => (nn.trans n56).n a o h⟩, fun a o h => ?_, hI6, upd_same, ?_⟩
      · rw [upd_ne (ne_of_none h hD)]
        exact (nn.trans n56).h a o h
      · rw [upd_ne (ne_of_none h hI6)]
        exact w6.sub a o h
      · rw [List.take_succ_eq_append_getElem hix, List.filter_append, List.filter_cons, if_pos hp, List.map_append]
        simp only [List.filter_nil, List.map_cons, List.map_nil]
        exact (hA.mono (n3.i.trans n56.i)).append (.cons hv6 .nil)
  · obtain ⟨I', acc, n, e, hID, hHD, hA⟩ := q'
    have n' : New I1 H1 (upd I' Dl (.lst acc)) H' := ⟨fun a o h => Ex.new hID a o (n.i a o h), n.h, fun a o h => by
      by_cases hh : a = Dl
      · subst hh; exact .inr hD
      · rw [upd_ne hh] at h; exact n.n a o h⟩
    have e' : Ex (upd I' Dl (.lst acc)) H' := fun a o h => by
      by_cases hh : a = Dl
      · subst hh; rw [upd_same] at h; cases h; exact hHD
      · rw [upd_ne hh] at h; exact e a o h
    refine q (.ref Dl) _ H' L1 (w1.new n' e') (g1.trans (Guar.new n')) (.lst (sq_of upd_same) ?_)
    rw [List.length_map, List.take_length] at hA
    exact hA.mono (Ex.new hID)
end
end FD

/-! FD3: operations on data, lists that change, defs by contracts. -/
namespace FD
open PySem PySem.Spec PyProof.Rows L2

mutual
def D.py : D → PyData
  | .non => .none
  | .bl b => .bool b
  | .int i => .int i
  | .str x => .str x
  | .lst ds => .list (D.pyA ds)
  | .tup ds => .tuple (D.pyA ds)
  | .dic _ _ => .none
  | .ins _ _ _ => .none
  | .raw _ => .none
def D.pyA : List D → List PyData
  | [] => []
  | d :: ds => D.py d :: D.pyA ds
end
mutual
/-- data that the library's PyData tells -/
def D.pure : D → Bool
  | .lst ds => D.pureA ds
  | .tup ds => D.pureA ds
  | .dic _ _ => false
  | .ins _ _ _ => false
  | .raw _ => false
  | _ => true
def D.pureA : List D → Bool
  | [] => true
  | d :: ds => D.pure d && D.pureA ds
end
/-- without objects -/
def D.scalar : D → Bool
  | .non => true
  | .bl _ => true
  | .int _ => true
  | .str _ => true
  | .raw _ => true
  | _ => false
section
variable {K : PySem.W.Frag} {I H : Hp}
mutual
theorem Is.dp (e : Ex I H) : ∀ {d : D} {v : V}, D.pure d = true → Is K I v d → Dp K H v d.py
  | .non, _, _, h => by cases h; exact .non
  | .bl _, _, _, h => by cases h; exact .bl _
  | .int _, _, _, h => by cases h; exact .int _
  | .str _, _, _, h => by cases h; exact .str _
  | .lst ds, _, p, h => by
    cases h with
    | lst h1 h2 => exact .lst (e.l h1) (IsA.dp e (by simpa [D.pure] using p) h2)
  | .tup ds, _, p, h => by
    cases h with
    | tup h1 h2 => exact .tup (e.t h1) (IsA.dp e (by simpa [D.pure] using p) h2)
  | .dic _ _, _, p, _ => by simp [D.pure] at p
  | .ins _ _ _, _, p, _ => by simp [D.pure] at p
  | .raw _, _, p, _ => by simp [D.pure] at p
theorem IsA.dp (e : Ex I H) : ∀ {ds : List D} {vs : List V}, D.pureA ds = true → IsA K I vs ds → DpAll K H vs (D.pyA ds)
  | [], _, _, h => by cases h; exact .nil
  | d :: ds, _, p, h => by
    cases h with
    | cons h1 h2 =>
      simp only [D.pureA, Bool.and_eq_true] at p
      exact .cons (Is.dp e p.1 h1) (IsA.dp e p.2 h2)
end
theorem Is.scalar {I' : Hp} {d : D} {v : V} (h : Is K I v d) (s : d.scalar = true) : Is K I' v d := by
  cases d with
  | non => cases h; exact .non
  | bl _ => cases h; exact .bl _
  | int _ => cases h; exact .int _
  | str _ => cases h; exact .str _
  | raw _ => cases h; exact .raw _
  | lst _ => cases s
  | tup _ => cases s
  | dic _ _ => cases s
  | ins _ _ _ => cases s
end
/-- == of data -/
def D.eqv (x y : D) : Bool := PyData.eqv x.py y.py
def D.shaped (x : D) : Bool := D.pure x && SeqAt.shaped x.py
/-- the i-th of a list by Python's index -/
abbrev dAt (ds : List D) (i : Int) : Option D := atI ds i
theorem IsA.atI {K : PySem.W.Frag} {I : Hp} {vs : List V} {ds : List D} {i : Int} {d : D} (h : IsA K I vs ds) (e : atI ds i = some d) : ∃ v, L2.atI vs i = some v ∧ Is K I v d := by
  unfold L2.atI at e ⊢
  rw [h.length]
  cases q : ixN ds.length i with
  | none => rw [q] at e; cases e
  | some j => rw [q] at e; exact h.getD e
def cutD (ds : List D) (lo hi : Option Int) : List D := (ds.drop (HT.sIx ds.length 0 lo)).take (HT.sIx ds.length ds.length hi - HT.sIx ds.length 0 lo)
theorem IsA.cut {K : PySem.W.Frag} {I : Hp} {vs : List V} {ds : List D} (h : IsA K I vs ds) (lo hi : Option Int) : IsA K I (cutV vs lo hi) (cutD ds lo hi) := by
  unfold cutV cutD
  rw [h.length]
  exact (h.drop _).take _

section
variable {K : PySem.W.Frag} {m : Md} {Γ Γ' Γ1 Γ2 Γ3 : List Sl} {ta tb te tx tl ti : TE} {t u : TT} {x y z d : D} {r r' : R2} {a b c : Bool} {I H I' H' : Hp} {L L' : List Addr} {i j : Int} {o : Out}
theorem pureR_here {r : Hp → VK → Prop} {v : V} (s : Ex I H) (hv : Is K I v z) (h : ∀ Q : VK, Q v H → r H Q) : PureR K I H r z := fun Q q => h Q (q v I H (New.refl I H) s hv)
/-! operators -/
theorem opd_or1 (h : OpD K r x y z) : OpD K (fun x y H Q => r x y H Q ∨ r' x y H Q) x y z := fun I H v w s hv hw Q q => .inl (h I H v w s hv hw Q q)
theorem opd_or2 (h : OpD K r' x y z) : OpD K (fun x y H Q => r x y H Q ∨ r' x y H Q) x y z := fun I H v w s hv hw Q q => .inr (h I H v w s hv hw Q q)
theorem opd_Ii {f : Int → Int → Int} : OpD K (rI0 fun i j => .int (f i j)) (.int i) (.int j) (.int (f i j)) := fun I H v w s hv hw => by
  cases hv; cases hw
  exact pureR_here s (.int _) fun Q q => ⟨i, j, rfl, rfl, q⟩
theorem opd_Ib {f : Int → Int → Bool} : OpD K (rI0 fun i j => .bl (f i j)) (.int i) (.int j) (.bl (f i j)) := fun I H v w s hv hw => by
  cases hv; cases hw
  exact pureR_here s (.bl _) fun Q q => ⟨i, j, rfl, rfl, q⟩
theorem opd_IC {C : Int → Int → Prop} {f : Int → Int → Int} (hc : C i j) : OpD K (rI C fun i j => .int (f i j)) (.int i) (.int j) (.int (f i j)) := fun I H v w s hv hw => by
  cases hv; cases hw
  exact pureR_here s (.int _) fun Q q => ⟨i, j, rfl, rfl, hc, q⟩
theorem opd_eqD (hx : x.shaped = true) (hy : y.shaped = true) : OpD K (rEqD K) x y (.bl (D.eqv x y)) := fun I H v w s hv hw => by
  simp only [D.shaped, Bool.and_eq_true] at hx hy
  exact pureR_here s (.bl _) fun Q q => ⟨x.py, y.py, hv.dp s hx.1, hw.dp s hy.1, hx.2, hy.2, q⟩
theorem opd_neD (hx : x.shaped = true) (hy : y.shaped = true) : OpD K (rNeD K) x y (.bl (!D.eqv x y)) := fun I H v w s hv hw => by
  simp only [D.shaped, Bool.and_eq_true] at hx hy
  exact pureR_here s (.bl _) fun Q q => ⟨x.py, y.py, hv.dp s hx.1, hw.dp s hy.1, hx.2, hy.2, q⟩
theorem py_list (ds : List D) : (D.lst ds).py = .list (D.pyA ds) := by simp [D.py]
theorem opd_inD {ds : List D} (hx : x.shaped = true) (hy : (D.lst ds).shaped = true) : OpD K (rInD K) x (.lst ds) (.bl ((D.pyA ds).any fun z => PyData.eqv z x.py)) := fun I H v w s hv hw => by
  simp only [D.shaped, Bool.and_eq_true] at hx hy
  rw [py_list] at hy
  have hd := hw.dp s hy.1
  rw [py_list] at hd
  exact pureR_here s (.bl _) fun Q q => ⟨x.py, D.pyA ds, hv.dp s hx.1, hd, hx.2, hy.2, q⟩
theorem opd_notInD {ds : List D} (hx : x.shaped = true) (hy : (D.lst ds).shaped = true) : OpD K (rNotInD K) x (.lst ds) (.bl (!(D.pyA ds).any fun z => PyData.eqv z x.py)) := fun I H v w s hv hw => by
  simp only [D.shaped, Bool.and_eq_true] at hx hy
  rw [py_list] at hy
  have hd := hw.dp s hy.1
  rw [py_list] at hd
  exact pureR_here s (.bl _) fun Q q => ⟨x.py, D.pyA ds, hv.dp s hx.1, hd, hx.2, hy.2, q⟩
theorem opd_isN : OpD K (fun x y H Q => y = .non ∧ Q (.bl (decide (x = .non))) H) x .non (.bl (match x with | .non => true | .raw v => decide (v = .non) | _ => false)) := fun I H v w s hv hw => by
  cases hw
  cases hv <;> exact pureR_here s (.bl _) fun Q q => ⟨rfl, by simpa using q⟩
theorem opd_notN : OpD K (fun x y H Q => y = .non ∧ Q (.bl (!decide (x = .non))) H) x .non (.bl (!match x with | .non => true | .raw v => decide (v = .non) | _ => false)) := fun I H v w s hv hw => by
  cases hw
  cases hv <;> exact pureR_here s (.bl _) fun Q q => ⟨rfl, by simpa using q⟩
theorem opd_ixL {ds : List D} {k : Int} (h : atI ds k = some d) : OpD K (rIx K) (.lst ds) (.int k) d := fun I H v w s hv hw => by
  cases hw
  cases hv with
  | lst h1 h2 =>
    obtain ⟨v, e, hv⟩ := h2.atI h
    exact pureR_here s hv fun Q q => .inl ⟨_, _, k, v, rfl, rfl, (s.l h1), e, q⟩
theorem opd_ixT {ds : List D} {k : Int} (h : atI ds k = some d) : OpD K (rIx K) (.tup ds) (.int k) d := fun I H v w s hv hw => by
  cases hw
  cases hv with
  | tup h1 h2 =>
    obtain ⟨v, e, hv⟩ := h2.atI h
    exact pureR_here s hv fun Q q => .inr (.inl ⟨_, _, k, v, rfl, rfl, s.t h1, e, q⟩)
theorem opd_ixS {w : Str} {k : Int} {c : Nat} (hl : w.length ≤ sizeLine) (h : atI w.cps.toList k = some c) : OpD K (rIx K) (.str w) (.int k) (.str ⟨#[c]⟩) := fun I H v u s hv hw => by
  cases hv; cases hw
  exact pureR_here s (.str _) fun Q q => .inr (.inr ⟨w, k, c, rfl, rfl, hl, h, q⟩)
theorem sld_L {ds : List D} {lo hi : Option Int} : SlD K (rSlL K) (.lst ds) lo hi (.lst (cutD ds lo hi)) := fun I H v s hv Q q => by
  cases hv with
  | lst h1 h2 => exact ⟨_, _, rfl, (s.l h1), fun p hp => let ⟨n, e⟩ := alloc (o := .lst _) s hp; q _ _ _ n e (.lst (sq_of upd_same) ((h2.cut lo hi).mono n.i))⟩
theorem opd_addS {v w : Str} (h : v.length + w.length ≤ sizeLine) : OpD K (fun x y H Q => ∃ i j, x = .str i ∧ y = .str j ∧ i.length + j.length ≤ sizeLine ∧ Q (.str (i ++ j)) H) (.str v) (.str w) (.str (v ++ w)) := fun I H a b s ha hb => by
  cases ha; cases hb
  exact pureR_here s (.str _) fun Q q => ⟨v, w, rfl, rfl, h, q⟩
/-! built-in functions -/
theorem cd_int {i : Int} : CallD K (fun xs H Q => (∃ i, xs = [.int i] ∧ Q (.int i) H) ∨ ∃ k, xs = [.bl k] ∧ Q (.int (if k then 1 else 0)) H) [.int i] (.int i) := fun I H vs s h => by
  cases h with
  | cons h1 h2 =>
    cases h1; cases h2
    exact pureR_here s (.int i) fun Q q => .inl ⟨i, rfl, q⟩
theorem cd_abs {i : Int} : CallD K (fun xs H Q => ∃ i, xs = [.int i] ∧ Q (.int (if i < 0 then -i else i)) H) [.int i] (.int (if i < 0 then -i else i)) := fun I H vs s h => by
  cases h with
  | cons h1 h2 =>
    cases h1; cases h2
    exact pureR_here s (.int _) fun Q q => ⟨i, rfl, q⟩
theorem cd_max2 {i j : Int} : CallD K (fun xs H Q => ∃ i j, xs = [.int i, .int j] ∧ Q (.int (if j > i then j else i)) H) [.int i, .int j] (.int (if j > i then j else i)) := fun I H vs s h => by
  cases h with
  | cons h1 h2 =>
    cases h2 with
    | cons h2 h3 =>
      cases h1; cases h2; cases h3
      exact pureR_here s (.int _) fun Q q => ⟨i, j, rfl, q⟩
theorem cd_min2 {i j : Int} : CallD K (fun xs H Q => ∃ i j, xs = [.int i, .int j] ∧ Q (.int (if j < i then j else i)) H) [.int i, .int j] (.int (if j < i then j else i)) := fun I H vs s h => by
  cases h with
  | cons h1 h2 =>
    cases h2 with
    | cons h2 h3 =>
      cases h1; cases h2; cases h3
      exact pureR_here s (.int _) fun Q q => ⟨i, j, rfl, q⟩
def rLenS (K : PySem.W.Frag) : List V → Hp → VK → Prop := fun xs H Q => ∃ p ys, xs = [.ref p] ∧ (SqL K H p ys ∨ SqT K H p ys) ∧ Q (.int ys.length) H
theorem cd_lenL {ds : List D} : CallD K (fun xs H Q => ∃ p ys, xs = [.ref p] ∧ (SqL K H p ys ∨ SqT K H p ys) ∧ Q (.int ys.length) H) [.lst ds] (.int (ds.length : Nat)) := fun I H vs s h => by
  cases h with
  | cons h1 h2 =>
    cases h2
    cases h1 with
    | lst q1 q2 => exact pureR_here s (.int _) fun Q q => ⟨_, _, rfl, .inl (s.l q1), by rw [q2.length]; exact q⟩
theorem cd_lenT {ds : List D} : CallD K (fun xs H Q => ∃ p ys, xs = [.ref p] ∧ (SqL K H p ys ∨ SqT K H p ys) ∧ Q (.int ys.length) H) [.tup ds] (.int (ds.length : Nat)) := fun I H vs s h => by
  cases h with
  | cons h1 h2 =>
    cases h2
    cases h1 with
    | tup q1 q2 => exact pureR_here s (.int _) fun Q q => ⟨_, _, rfl, .inr (s.t q1), by rw [q2.length]; exact q⟩
theorem cd_listL {ds : List D} : CallD K (fun xs H Q => ∃ p ys, xs = [.ref p] ∧ (SqL K H p ys ∨ SqT K H p ys) ∧ ∀ l, H l = none → Q (.ref l) (upd H l (.lst ys))) [.lst ds] (.lst ds) := fun I H vs s h Q q => by
  cases h with
  | cons h1 h2 =>
    cases h2
    cases h1 with
    | lst q1 q2 => exact ⟨_, _, rfl, .inl (s.l q1), fun p hp => let ⟨n, e⟩ := alloc (o := .lst _) s hp; q _ _ _ n e (.lst (sq_of upd_same) (q2.mono n.i))⟩
theorem cd_listT {ds : List D} : CallD K (fun xs H Q => ∃ p ys, xs = [.ref p] ∧ (SqL K H p ys ∨ SqT K H p ys) ∧ ∀ l, H l = none → Q (.ref l) (upd H l (.lst ys))) [.tup ds] (.lst ds) := fun I H vs s h Q q => by
  cases h with
  | cons h1 h2 =>
    cases h2
    cases h1 with
    | tup q1 q2 => exact ⟨_, _, rfl, .inr (s.t q1), fun p hp => let ⟨n, e⟩ := alloc (o := .lst _) s hp; q _ _ _ n e (.lst (sq_of upd_same) (q2.mono n.i))⟩

/-! lists that change -/
/-- a changeable list read as data, where the answer is no object -/
theorem ev_borrow {k : Nat} {v : V} {ds : List D} (hi : Γ[k]? = some (.res v (Rlst K ds))) (h : ∀ Γ0 : List Sl, Γ0 = Γ.set k (.dat (.lst ds)) → Ev K .p te Γ0 z Γ') (hz : z.scalar = true) : Ev K m te Γ z Γ := fun σ I H L w Q q => by
  obtain ⟨I1, L1, w1, s1, hv⟩ := w.frz hi
  refine h _ rfl σ I1 H L1 w1 Q fun u I2 H2 L2 w2 g2 hu => ?_
  obtain ⟨n, rfl⟩ := g2
  have n' : New I H I H2 := ⟨Ex.refl I, n.h, fun a o h => .inl h⟩
  exact q u I H2 L (w.new n' (w.sub.trans n.h)) (Guar.new n') (hu.scalar hz)
theorem ev_ixR {k : Nat} {v : V} {ds : List D} {j : Int} (h0 : Γ[k]? = some (.res v (Rlst K ds))) (h : Ev K m ti Γ (.int j) Γ1) (hi : Γ1[k]? = some (.res v (Rlst K ds))) (hd : atI ds j = some d) : Ev K m (tOp (rIx K) (tVar k) ti) Γ d Γ1 := fun σ I H L w Q q => by
  obtain ⟨hσ, _⟩ := w.stepR h0
  refine ⟨v, hσ, h σ I H L w _ fun u I1 H1 L1 w1 g1 hu => ?_⟩
  cases hu
  obtain ⟨_, Li, ⟨a, xs, rfl, rfl, ha, hx⟩, _⟩ := w1.stepR hi
  obtain ⟨v, e, hv⟩ := hx.atI hd
  exact .inl ⟨a, xs, j, v, rfl, rfl, sq_of ha, e, q v I1 H1 L1 w1 g1 hv⟩
/-- the list at slot k becomes ds' -/
theorem Wd.wr {σ : Sg} {k : Nat} {v : V} {ds ds' : List D} (w : Wd K Γ σ I H L) (hi : Γ[k]? = some (.res v (Rlst K ds))) : σ[k]? = some (some v) ∧ ∃ a xs, v = .ref a ∧ H a = some (.lst xs) ∧ IsA K I xs ds ∧
    ∀ xs', IsA K I xs' ds' → ∃ L', Wd K (Γ.set k (.res v (Rlst K ds'))) σ I (upd H a (.lst xs')) L' ∧ Step I H L I (upd H a (.lst xs')) L' := by
  obtain ⟨hσ, Li, ⟨a, xs, rfl, rfl, ha, hx⟩, nd, fr, fin⟩ := w.stepR hi
  refine ⟨hσ, a, xs, rfl, ha, hx, fun xs' hx' => ?_⟩
  refine fin I (upd H a (.lst xs')) (Rlst K ds') [a] ⟨Ex.refl I, fun b o e hb => ?_, fun b hb => .inl hb, fun b o e => .inl e⟩ nd fr (fun b o e => ?_) ⟨a, xs', rfl, rfl, upd_same, hx'⟩
  · rw [upd_ne (by simpa using hb)]
    exact e
  · rw [upd_ne (ne_of_none e (fr a (by simp)))]
    exact w.sub b o e
theorem run_app {k : Nat} {v : V} {ds : List D} (h0 : Γ[k]? = some (.res v (Rlst K ds))) (h : Ev K m te Γ d Γ1) (hi : Γ1[k]? = some (.res v (Rlst K ds))) (hz : ds.length < sizeLine) : Run K (tDrop (tBM K "list" rAppend (tVar k) (tCons te tNil))) Γ (.nx (Γ1.set k (.res v (Rlst K (ds ++ [d]))))) := fun σ I H L w Dn p => by
  obtain ⟨hσ, a, xs, rfl, ha, hx, _⟩ := w.wr (ds' := []) h0
  refine ⟨_, hσ, .inl ⟨rfl, _, sq_of ha⟩, h σ I H L w _ fun u I1 H1 L1 w1 g1 hu => ?_⟩
  obtain ⟨hσ1, a', xs1, e, ha1, hx1, fin⟩ := w1.wr (ds' := ds ++ [d]) hi
  cases e
  obtain ⟨L2, w2, s2⟩ := fin (xs1 ++ [u]) (hx1.append (.cons hu .nil))
  exact ⟨_, xs1, u, rfl, rfl, ha1, by rw [hx1.length]; exact hz, p σ I1 _ L2 w2 (g1.step.trans s2)⟩
theorem run_setI {k : Nat} {v : V} {ds : List D} {j : Int} {n : Nat} (h : Ev K m te Γ d Γ1) (hk : ∀ v', Γ1[k]? = some (.res v' (Rlst K ds)) → v' = v) (hi1 : Γ1[k]? = some (.res v (Rlst K ds))) (h2 : Ev K .p ti Γ1 (.int j) Γ1) (hn : ixN ds.length j = some n) : Run K (tAsg te (gSub (tVar k) ti rSetL)) Γ (.nx (Γ1.set k (.res v (Rlst K (ds.set n d))))) := fun σ I H L w Dn p => h σ I H L w _ fun u I1 H1 L1 w1 g1 hu => by
  obtain ⟨hσ, _⟩ := w1.stepR hi1
  refine ⟨v, hσ, h2 σ I1 H1 L1 w1 _ fun q I2 H2 L2 w2 g2 hq => ?_⟩
  cases hq
  obtain ⟨_, a, xs, rfl, ha, hx, fin⟩ := w2.wr (ds' := ds.set n d) hi1
  obtain ⟨L3, w3, s3⟩ := fin (xs.set n u) (hx.set n (hu.mono g2.i))
  exact ⟨a, xs, j, n, rfl, rfl, ha, by rw [hx.length]; exact hn, p σ I2 _ L3 w3 ((g1.step.trans g2.step).trans s3)⟩
theorem ev_popAt {k : Nat} {v : V} {ds : List D} {j : Int} {n : Nat} (h0 : Γ[k]? = some (.res v (Rlst K ds))) (h : Ev K m te Γ (.int j) Γ1) (hi : Γ1[k]? = some (.res v (Rlst K ds))) (hj : -(2 ^ 63) ≤ j ∧ j < 2 ^ 63) (hn : seqIndex? j ds.length = some n) (hd : ds[n]? = some d) :
    Ev K .e (tBM K "list" rPopAt (tVar k) (tCons te tNil)) Γ d (Γ1.set k (.res v (Rlst K (ds.eraseIdx n)))) := fun σ I H L w Q q => by
  obtain ⟨hσ, a, xs, rfl, ha, hx, _⟩ := w.wr (ds' := []) h0
  refine ⟨_, hσ, .inl ⟨rfl, _, sq_of ha⟩, h σ I H L w _ fun u I1 H1 L1 w1 g1 hu => ?_⟩
  cases hu
  obtain ⟨hσ1, a', xs1, e, ha1, hx1, fin⟩ := w1.wr (ds' := ds.eraseIdx n) hi
  cases e
  obtain ⟨y, hy, hv⟩ := hx1.getD hd
  obtain ⟨L2, w2, s2⟩ := fin (xs1.eraseIdx n) (hx1.erase n)
  exact ⟨_, xs1, j, n, y, rfl, rfl, ha1, hj.1, hj.2, by rw [hx1.length]; exact hn, hy, q y I1 _ L2 w2 (g1.step.trans s2) hv⟩
end

/-! ### defs -/
/-- a contract: the parameters ahead, what comes back, the parameters behind -/
inductive Pr where
  | d (pre : List Sl) (z : D) (post : List Sl)
  | r (pre : List Sl) (R : Res) (post : List Sl)
def Pr.pre : Pr → List Sl
  | .d p _ _ => p
  | .r p _ _ => p
def spC (K : PySem.W.Frag) (C : Pr → Prop) : Sp := fun vs H Q _ =>
  (∃ pre z post I L, C (.d pre z post) ∧ Wd K pre (vs.map some) I H L ∧ ∀ v I' H' L', Wd K post (vs.map some) I' H' L' → Step I H L I' H' L' → Is K I' v z → Q v H') ∨
  ∃ pre R post I L, C (.r pre R post) ∧ Wd K pre (vs.map some) I H L ∧ ∀ v I' H' L', Wd K (.res v R :: post) (some v :: vs.map some) I' H' L' → Step I H L I' H' L' → Q v H'
/-- the parameters behind the body -/
inductive PoK : List Sl → List Sl → List Sl → Prop
  | nil {Γ : List Sl} : PoK [] Γ []
  | dat {d : D} {x : Sl} {pre Γ post : List Sl} : PoK pre Γ post → PoK (.dat d :: pre) (x :: Γ) (.dat d :: post)
  | res {v : V} {R R' : Res} {pre Γ post : List Sl} : PoK pre Γ post → PoK (.res v R :: pre) (.res v R' :: Γ) (.res v R' :: post)
  | resW {v : V} {R R1 R' : Res} {pre Γ post : List Sl} (h : ∀ I H L, R1.P I v H L → R'.P I v H L) : PoK pre Γ post → PoK (.res v R :: pre) (.res v R1 :: Γ) (.res v R' :: post)
section
variable {K : PySem.W.Frag}
theorem con_of {C : Pr → Prop} {pre post : List Sl} {z : D} (h : C (.d pre z post)) : Con K (spC K C) pre z post := fun vs I H L w Q E q => .inl ⟨pre, z, post, I, L, h, w, q⟩
theorem conR_of {C : Pr → Prop} {pre post : List Sl} {R : Res} (h : C (.r pre R post)) : ConR K (spC K C) pre R post := fun vs I H L w Q E q => .inr ⟨pre, R, post, I, L, h, w, q⟩
theorem EnvOk.post {I H I' H' : Hp} (e : Ex I I') : ∀ {pre Γ post : List Sl} {vs : List V} {σ : Sg} {L L1 : List Addr}, PoK pre Γ post → EnvOk K I H pre (vs.map some) L → EnvOk K I' H' Γ σ L1 → ∃ L', L'.Sublist L1 ∧ EnvOk K I' H' post (vs.map some) L'
  | _, _, _, [], _, _, L1, .nil, _, _ => ⟨[], List.nil_sublist _, .nil⟩
  | _, _, _, _ :: _, _, _, _, .nil, h, _ => by cases h
  | _, _, _, v :: vs, _, _, _, .dat k, .dat p h, .em _ g => let ⟨L', s, r⟩ := EnvOk.post e k h g; ⟨L', s, .dat (p.mono e) r⟩
  | _, _, _, v :: vs, _, _, _, .dat k, .dat p h, .dat _ g => let ⟨L', s, r⟩ := EnvOk.post e k h g; ⟨L', s, .dat (p.mono e) r⟩
  | _, _, _, v :: vs, _, _, _, .dat k, .dat p h, .res (L1 := M) _ g => let ⟨L', s, r⟩ := EnvOk.post e k h g; ⟨L', s.trans (List.sublist_append_right _ _), .dat (p.mono e) r⟩
  | _, _, _, v :: vs, _, _, _, .resW hw k, .res p h, .res (L1 := M) q g => let ⟨L', s, r⟩ := EnvOk.post e k h g; ⟨M ++ L', List.Sublist.append_left s _, .res (hw _ _ _ q) r⟩
  | _, _, _, v :: vs, _, _, _, .res k, .res p h, .res (L1 := M) q g => let ⟨L', s, r⟩ := EnvOk.post e k h g; ⟨M ++ L', List.Sublist.append_left s _, .res q r⟩
/-- the body keeps the contract -/
def Body (K : PySem.W.Frag) (t : TS) (n : Nat) : Pr → Prop
  | .d pre z post => ∃ Γ o, Run K t (pre ++ List.replicate (n - pre.length) .em) o ∧ PoK pre Γ post ∧ (o = .rt z Γ ∨ (o = .nx Γ ∧ z = .non))
  | .r pre R post => ∃ Γ, Run K t (pre ++ List.replicate (n - pre.length) .em) (.rtR R Γ) ∧ PoK pre Γ post
theorem EnvOk.more {I H : Hp} : ∀ {Γ : List Sl} {σ : Sg} {L : List Addr} (n : Nat), EnvOk K I H Γ σ L → EnvOk K I H (Γ ++ List.replicate n .em) (σ ++ List.replicate n none) L
  | _, _, _, 0, .nil => .nil
  | _, _, _, n + 1, .nil => .em _ (EnvOk.more n .nil)
  | _, _, _, n, .em x e => .em x (EnvOk.more n e)
  | _, _, _, n, .dat p e => .dat p (EnvOk.more n e)
  | _, _, _, n, .res p e => .res p (EnvOk.more n e)
theorem body_ok {t : TS} {N : List Str} {C : Pr → Prop} (hb : ∀ c, C c → Body K t N.length c) {vs : List V} {H : Hp} {Q : VK} {E : XK} (h : spC K C vs H Q E) : t { nx := fun _ H' => Q .non H', rt := Q } (start N vs) H := by
  rcases h with ⟨pre, z, post, I, L, hc, w, q⟩ | ⟨pre, R, post, I, L, hc, w, q⟩
  · obtain ⟨Γ, o, hr, hp, ho⟩ := hb _ hc
    have hl : pre.length = vs.length := by simpa using w.env.len
    have w0 : Wd K (pre ++ List.replicate (N.length - pre.length) .em) (start N vs) I H L := ⟨by
      have := EnvOk.more (N.length - pre.length) w.env
      rw [show start N vs = vs.map some ++ List.replicate (N.length - pre.length) none from by rw [hl]; rfl]
      exact this, w.nd, w.fr, w.sub⟩
    have fin : ∀ v σ' I' H' L', Wd K Γ σ' I' H' L' → Step I H L I' H' L' → Is K I' v z → Q v H' := fun v σ' I' H' L' w' s hv => by
      obtain ⟨L2, sl, e⟩ := EnvOk.post s.i hp w.env w'.env
      exact q v I' H' L2 (w'.sublist sl e) (s.trans (Step.sublist sl)) hv
    rcases ho with rfl | ⟨rfl, rfl⟩
    · exact hr _ I H L w0 _ fun v σ' I' H' L' w' s hv => fin v σ' I' H' L' w' s hv
    · exact hr _ I H L w0 _ fun σ' I' H' L' w' s => fin .non σ' I' H' L' w' s .non
  · obtain ⟨Γ, hr, hp⟩ := hb _ hc
    have hl : pre.length = vs.length := by simpa using w.env.len
    have w0 : Wd K (pre ++ List.replicate (N.length - pre.length) .em) (start N vs) I H L := ⟨by
      have := EnvOk.more (N.length - pre.length) w.env
      rw [show start N vs = vs.map some ++ List.replicate (N.length - pre.length) none from by rw [hl]; rfl]
      exact this, w.nd, w.fr, w.sub⟩
    refine hr _ I H L w0 _ fun v σ' I' H' L' w' s => ?_
    have e0 := w'.env
    cases e0 with
    | @res _ _ L1 L2 _ _ p e1 =>
      obtain ⟨L3, sl, e⟩ := EnvOk.post s.i hp w.env e1
      have sl' : (L1 ++ L3).Sublist (L1 ++ L2) := List.Sublist.append_left sl _
      exact q v I' H' (L1 ++ L3) (w'.sublist sl' (.res p e)) (s.trans (Step.sublist sl'))
variable {P : Program} {w : PySem.World} {mg : Str → Option Value} {base : Heap}
/-- THE RULE for a def by contracts -/
theorem okC {x qual : Str} {st : Stmt} {f : Addr} {fd : FuncData} {N ps : List Str} {k : Nat} {C : Pr → Prop} (F : Fun K x qual st f fd) (S : FnScope N ps (defScope st)) (len : ∀ c, C c → c.pre.length = ps.length)
    (hbody : ∀ (cdv : Value) (A : Around) (outer : List Env) (s : Shared) (H : Hp) (vs : List V) (Q : VK) (E : XK), Room k (A.deeper (envOfC qual (defScope st) s.heap.objs.size f cdv)) →
      ∃ t, PSs (cxOf CX0 P w K mg base N qual (defScope st) f cdv A outer s H E).nox (defBody st) t ∧ ∀ c, C c → Body K t N.length c) : FnOk P w K mg base CX0 (k + 1) f fd ps (spC K C) := by
  refine F.ok S (fun vs H Q E h => ?_) fun cdv A outer s H vs Q E hr h => ?_
  · rcases h with ⟨pre, z, post, I, L, hc, w, _⟩ | ⟨pre, R, post, I, L, hc, w, _⟩
    · have := len _ hc
      have hl := w.env.len
      simp [Pr.pre] at this hl
      omega
    · have := len _ hc
      have hl := w.env.len
      simp [Pr.pre] at this hl
      omega
  · obtain ⟨t, ht, hb⟩ := hbody cdv A outer s H vs Q E hr
    exact ⟨t, ht, body_ok hb h⟩
end
end FD

/-! FD4: one rule an operator, whatever the kinds. -/
namespace FD
open PySem PySem.Spec PyProof.Rows L2
theorem fd_addL {prog : Program} {w : PySem.World} {A : Around} {E : Value → Shared → Prop} {s : Shared} {l b : Addr} {vs ws : List Value} {Q : Value → Shared → Prop} (hl : s.heap.IsList l vs.toArray) (hb : s.heap.IsList b ws.toArray) (hsz : vs.length + ws.length ≤ sizeLine)
    (h : Q (.ref s.heap.objs.size) { s with heap := s.heap.push { cls := .type "list", data := .seq (vs ++ ws).toArray } }) : wpAny (model prog w) A (binaryOp .Add (.ref l) (.ref b)) Q E s := by
  obtain ⟨⟨cls, dd, data, sl⟩, ho, hc, n, hd⟩ := id hl
  obtain ⟨⟨cls2, dd2, data2, sl2⟩, ho2, hc2, n2, hd2⟩ := id hb
  simp only at hc hd hc2 hd2
  subst hc hd hc2 hd2
  have e : vs.toArray ++ ws.toArray = (vs ++ ws).toArray := by simp
  refine PySem.concat_meets ⟨_, ho, rfl⟩ ⟨_, ho2, rfl⟩ PySem.noFill_list_add PySem.seq_list_add PySem.F.slot_list_add PySem.F.entry_list_add (PySem.F.args_list_add_2 _ _) (PyProof.Rows.list_addW l b vs.toArray ws.toArray n n2 dd dd2 sl sl2 (by simpa using hsz)) ⟨ho, ho2, ?_⟩
  rw [e]
  exact h
section
variable {X : Cx}
/-- list + list, read -/
def rCatL (K : PySem.W.Frag) : R2 := fun x y H Q => ∃ l b xs zs, x = .ref l ∧ y = .ref b ∧ SqL K H l xs ∧ SqL K H b zs ∧ xs.length + zs.length ≤ sizeLine ∧ ∀ p, H p = none → Q (.ref p) (upd H p (.lst (xs ++ zs)))
theorem op_catL : OpR X (binaryOp .Add) (rCatL X.K) := by
  intro pins s σ H x y v u Q I rx ry h
  obtain ⟨l, b, xs, zs, rfl, rfl, hH, hB, hz, q⟩ := h
  cases rx
  cases ry
  obtain ⟨its, r, pl, z⟩ := I.list hH
  obtain ⟨its2, r2, pl2, z2⟩ := I.list hB
  have hl := r.length
  have hl2 := r2.length
  exact fd_addL pl.isList pl2.isList (by omega) ⟨.ref _, _, I.lnew (t' := s.toks) (r.append r2) (by rw [List.length_append]; omega), rfl, q _ I.fresh⟩
def rAddA (K : PySem.W.Frag) : R2 := fun x y H Q => (rI0 (fun i j => .int (i + j)) x y H Q) ∨ (fun x y H Q => (∃ i j, x = .str i ∧ y = .str j ∧ i.length + j.length ≤ sizeLine ∧ Q (.str (i ++ j)) H) ∨ (fun x y H Q => rCatL K x y H Q ∨ rCatA K x y H Q) x y H Q) x y H Q
theorem op_addA : OpR X (binaryOp .Add) (rAddA X.K) := OpR.or op_add (OpR.or op_add_str (OpR.or op_catL op_catA))
/-- <, <=, >, >= of ints and of texts -/
def rLtA : R2 := fun x y H Q => (rI0 (fun i j => .bl (decide (i < j))) x y H Q) ∨ (∃ i j, x = .str i ∧ y = .str j ∧ Q (.bl (decide (i.cps.toList < j.cps.toList))) H)
def rLeA : R2 := fun x y H Q => (rI0 (fun i j => .bl (decide (i ≤ j))) x y H Q) ∨ (∃ i j, x = .str i ∧ y = .str j ∧ Q (.bl (!decide (j.cps.toList < i.cps.toList))) H)
def rGtA : R2 := fun x y H Q => (rI0 (fun i j => .bl (decide (j < i))) x y H Q) ∨ (∃ i j, x = .str i ∧ y = .str j ∧ Q (.bl (decide (j.cps.toList < i.cps.toList))) H)
def rGeA : R2 := fun x y H Q => (rI0 (fun i j => .bl (decide (j ≤ i))) x y H Q) ∨ (∃ i j, x = .str i ∧ y = .str j ∧ Q (.bl (!decide (i.cps.toList < j.cps.toList))) H)
theorem op_ltA : OpR X (compareOp .Lt) rLtA := OpR.or op_lt op_lt_str
theorem op_leA : OpR X (compareOp .LtE) rLeA := OpR.or op_le op_le_str
theorem op_gtA : OpR X (compareOp .Gt) rGtA := OpR.or op_gt op_gt_str
theorem op_geA : OpR X (compareOp .GtE) rGeA := OpR.or op_ge op_ge_str
/-- slices of lists, tuples, texts -/
def rSlAny (K : PySem.W.Frag) : V → Option Int → Option Int → Hp → VK → Prop := fun x lo hi H Q => rSlL K x lo hi H Q ∨ (fun x lo hi H Q => rSlA K x lo hi H Q ∨ rSlS x lo hi H Q) x lo hi H Q
theorem sl_any : SlR X (rSlAny X.K) := SlR.or sl_list (SlR.or sl_tupA sl_str)
/-- len of lists, tuples, texts -/
def rLenA (K : PySem.W.Frag) : List V → Hp → VK → Prop := fun xs H Q => (∃ p ys, xs = [.ref p] ∧ (SqL K H p ys ∨ SqT K H p ys) ∧ Q (.int ys.length) H) ∨ (∃ z, xs = [.str z] ∧ z.length ≤ sizeLine ∧ Q (.int z.length) H)
theorem call_lenA : CallR X (.builtin "len") (rLenA X.K) := CallR.or call_len_seq call_len_str
end
section
variable {K : PySem.W.Frag} {m : Md} {Γ Γ' Γ1 Γ2 Γ3 : List Sl} {ta tb te tx tl ti : TE} {t u : TT} {x y z d : D} {r r' : R2} {a b c : Bool} {I H I' H' : Hp} {L L' : List Addr} {i j : Int} {o : Out}
theorem opd_add : OpD K (rAddA K) (.int i) (.int j) (.int (i + j)) := opd_or1 opd_Ii
theorem opd_addStr {v w : Str} (h : v.length + w.length ≤ sizeLine) : OpD K (rAddA K) (.str v) (.str w) (.str (v ++ w)) := opd_or2 (opd_or1 (opd_addS h))
theorem opd_addL {ds es : List D} (h : ds.length + es.length ≤ sizeLine) : OpD K (rAddA K) (.lst ds) (.lst es) (.lst (ds ++ es)) := fun I H v w s hv hw Q q => by
  cases hv with
  | lst h1 h2 =>
    cases hw with
    | lst h3 h4 => exact .inr (.inr (.inl ⟨_, _, _, _, rfl, rfl, s.l h1, s.l h3, by rw [h2.length, h4.length]; exact h, fun p hp => let ⟨n, e⟩ := alloc (o := .lst _) s hp; q _ _ _ n e (.lst (sq_of upd_same) ((h2.append h4).mono n.i))⟩))
theorem opd_addT {ds es : List D} (h : ds.length + es.length ≤ sizeLine) : OpD K (rAddA K) (.tup ds) (.tup es) (.tup (ds ++ es)) := fun I H v w s hv hw Q q => by
  cases hv with
  | @tup a1 xs _ h1 h2 =>
    cases hw with
    | @tup a2 zs _ h3 h4 =>
      refine .inr (.inr (.inr ⟨_, _, _, _, rfl, rfl, s.t h1, s.t h3, by rw [h2.length, h4.length]; exact h, fun e => ?_, fun ne e => ?_, fun n1 n2 p hp => ?_⟩))
      · subst e
        cases h2
        exact q _ I H (New.refl I H) s (.tup h3 h4)
      · subst e
        cases h4
        exact q _ I H (New.refl I H) s (by rw [List.append_nil]; exact .tup h1 h2)
      · obtain ⟨n, e⟩ := alloc (o := .tup (xs ++ zs)) s hp
        exact q _ _ _ n e (.tup (st_of upd_same) ((h2.append h4).mono n.i))
theorem opd_sub : OpD K (rI0 fun i j => .int (i - j)) (.int i) (.int j) (.int (i - j)) := opd_Ii
theorem opd_mul (h : i.natAbs.log2 + j.natAbs.log2 < 1000000) : OpD K (rI CMulW fun i j => .int (i * j)) (.int i) (.int j) (.int (i * j)) := opd_IC h
theorem opd_fdiv (h : 0 < j ∧ j.natAbs.log2 < 9000) : OpD K (rI CDivW fun i j => .int (i / j)) (.int i) (.int j) (.int (i / j)) := opd_IC h
theorem opd_mod (h : 0 < j) : OpD K (rI (fun _ j => 0 < j) fun i j => .int (i % j)) (.int i) (.int j) (.int (i % j)) := opd_IC h
theorem opd_pow (h : 0 ≤ j ∧ j ≤ 1000000 ∧ i.natAbs < 2 ^ 64) : OpD K (rI CPow fun i j => .int (i ^ j.toNat)) (.int i) (.int j) (.int (i ^ j.toNat)) := opd_IC h
theorem opd_lt : OpD K rLtA (.int i) (.int j) (.bl (decide (i < j))) := opd_or1 opd_Ib
theorem opd_le : OpD K rLeA (.int i) (.int j) (.bl (decide (i ≤ j))) := opd_or1 opd_Ib
theorem opd_gt : OpD K rGtA (.int i) (.int j) (.bl (decide (j < i))) := opd_or1 (opd_Ib (f := fun i j => decide (j < i)))
theorem opd_ge : OpD K rGeA (.int i) (.int j) (.bl (decide (j ≤ i))) := opd_or1 (opd_Ib (f := fun i j => decide (j ≤ i)))
theorem sld_list {ds : List D} {lo hi : Option Int} : SlD K (rSlAny K) (.lst ds) lo hi (.lst (cutD ds lo hi)) := fun I H v s hv Q q => .inl (sld_L I H v s hv Q q)
theorem cd_lenList {ds : List D} : CallD K (rLenA K) [.lst ds] (.int (ds.length : Nat)) := fun I H vs s h Q q => .inl (cd_lenL I H vs s h Q q)
theorem cd_lenTup {ds : List D} : CallD K (rLenA K) [.tup ds] (.int (ds.length : Nat)) := fun I H vs s h Q q => .inl (cd_lenT I H vs s h Q q)
theorem cd_lenStr {w : Str} (hw : w.length ≤ sizeLine) : CallD K (rLenA K) [.str w] (.int (w.length : Nat)) := fun I H vs s h Q q => by
  cases h with
  | cons h1 h2 =>
    cases h1; cases h2
    exact .inr ⟨w, rfl, hw, q _ I H (New.refl I H) s (.int _)⟩
end
end FD
namespace FD
open PySem PySem.Spec PyProof.Rows L2
section
variable {X : Cx}
theorem pi_or {tg it : Expr} {w1 w2 : TI} (h1 : PI X tg it w1) (h2 : PI X tg it w2) : PI X tg it (fun σ H R => w1 σ H R ∨ w2 σ H R) :=
  ⟨fun pins s σ H R I h => h.elim (h1.run pins s σ H R I) (h2.run pins s σ H R I)⟩
/-- a list, a tuple or a text -/
def iAny (K : PySem.W.Frag) (te : TE) : TI := fun σ H R => iList K te σ H R ∨ (fun σ H R => iTup K te σ H R ∨ iStr te σ H R) σ H R
theorem pi_any {tg e : Expr} {te : TE} (h : PE X e te) : PI X tg e (iAny X.K te) := pi_or (pi_list h) (pi_or (pi_tup h) (pi_str h))
end
section
variable {K : PySem.W.Frag} {m : Md} {Γ Γ1 : List Sl} {tl : TE}
theorem it_or1 {w1 w2 : TI} {ds : List D} (h : ItD K m w1 Γ ds Γ1) : ItD K m (fun σ H R => w1 σ H R ∨ w2 σ H R) Γ ds Γ1 := fun σ I H L w R k => .inl (h σ I H L w R k)
theorem it_or2 {w1 w2 : TI} {ds : List D} (h : ItD K m w2 Γ ds Γ1) : ItD K m (fun σ H R => w1 σ H R ∨ w2 σ H R) Γ ds Γ1 := fun σ I H L w R k => .inr (h σ I H L w R k)
theorem it_anyL {ds : List D} (h : Ev K m tl Γ (.lst ds) Γ1) : ItD K m (iAny K tl) Γ ds Γ1 := it_or1 (it_list h)
theorem it_anyT {ds : List D} (h : Ev K m tl Γ (.tup ds) Γ1) : ItD K m (iAny K tl) Γ ds Γ1 := it_or2 (it_or1 (it_tup h))
theorem it_anyS {s : Str} (h : Ev K m tl Γ (.str s) Γ1) : ItD K m (iAny K tl) Γ (signs s) Γ1 := it_or2 (it_or2 (it_str h))
end
end FD
namespace FD
open PySem PySem.Spec PyProof.Rows L2
theorem hu64 {A : Around} {k : Nat} (hr : Room k A) : A.units + 64 < cLine := hr.units
end FD
namespace FD
open PySem PySem.Spec PyProof.Rows L2
section
variable {K : PySem.W.Frag} {t : TS} {n : Nat} {pre post Γ Γ0 : List Sl} {z z' : D} {R : Res}
theorem body_d (h : Run K t Γ0 (.rt z' Γ)) (h0 : Γ0 = pre ++ List.replicate (n - pre.length) .em) (hp : PoK pre Γ post) (e : z' = z) : Body K t n (.d pre z post) := by
  subst e h0
  exact ⟨Γ, _, h, hp, .inl rfl⟩
theorem body_n (h : Run K t Γ0 (.nx Γ)) (h0 : Γ0 = pre ++ List.replicate (n - pre.length) .em) (hp : PoK pre Γ post) : Body K t n (.d pre .non post) := by
  subst h0
  exact ⟨Γ, _, h, hp, .inr ⟨rfl, rfl⟩⟩
theorem body_r (h : Run K t Γ0 (.rtR R Γ)) (h0 : Γ0 = pre ++ List.replicate (n - pre.length) .em) (hp : PoK pre Γ post) : Body K t n (.r pre R post) := by
  subst h0
  exact ⟨Γ, h, hp⟩
end
end FD
namespace FD
theorem lg1 {x : Int} (h : -18446744073709551616 ≤ x ∧ x ≤ 18446744073709551616) : x.natAbs.log2 ≤ 64 := by
  by_cases h0 : x.natAbs = 0
  · rw [h0]; decide
  · have h1 : x.natAbs < 2 ^ 65 := by omega
    exact Nat.le_of_lt_succ ((Nat.log2_lt h0).mpr h1)
theorem lgMul {x y : Int} (h : -18446744073709551616 ≤ x ∧ x ≤ 18446744073709551616) (h' : -18446744073709551616 ≤ y ∧ y ≤ 18446744073709551616) : x.natAbs.log2 + y.natAbs.log2 < 1000000 := by
  have := lg1 h
  have := lg1 h'
  omega
theorem lgDiv {x : Int} (h : 0 < x ∧ x ≤ 18446744073709551616) : 0 < x ∧ x.natAbs.log2 < 9000 := by
  have := lg1 (x := x) ⟨by omega, h.2⟩
  exact ⟨h.1, by omega⟩
end FD

/-! FD5: calls that give resources, comprehensions that change resources. -/
namespace FD
open PySem PySem.Spec PyProof.Rows L2
section
variable {K : PySem.W.Frag} {m : Md} {Γ Γ' Γ1 Γ2 Γ3 : List Sl} {ta tb te tx tl ti : TE} {t u : TT} {x y z d : D} {r r' : R2} {a b c : Bool} {I H I' H' : Hp} {L L' : List Addr} {i j : Int} {o : Out}
/-- a new world part beside: what a call with data alone gives as a resource -/
theorem er_call0 {sp : Sp} {ds : List D} {E : XK} {ta : TA} {R : Res} {post : List Sl} (h : EvA K m ta Γ ds Γ') (hs : ConR K sp (ds.map .dat) R post) : EvR K (tCall sp [] E ta) Γ R Γ' := fun σ I H L w Q q =>
  h σ I H L w _ fun vs I1 H1 L1 w1 g1 hv => by
    show sp (vs ++ []) H1 Q E
    rw [List.append_nil]
    refine hs vs I1 H1 [] (wd_dats hv w1.sub) Q E fun v I2 H2 L2 w2 s2 => ?_
    have n : New I1 H1 I2 H2 := ⟨s2.i, fun a o h => s2.keep a o h (by simp), fun a o h => (s2.n a o h).elim .inl fun z => z.elim (fun q => by simp at q) .inr⟩
    have w3 := w1.new n w2.sub
    have e2 := w2.env
    cases e2 with
    | @res _ _ M1 M2 _ _ p e =>
      have apart : ∀ a ∈ M1, a ∉ L1 := fun a h z => by
        rcases s2.l a (by simp [h]) with q | q
        · simp at q
        · exact w1.live a z q
      have nd2 := List.nodup_append.mp w2.nd
      refine q v I2 H2 (M1 ++ L1) ⟨.res p w3.env, List.nodup_append.mpr ⟨nd2.1, w3.nd, fun a h b hb e => apart a h (e ▸ hb)⟩, fun a h => ?_, w2.sub⟩ (g1.step.trans ⟨n.i, fun a o h _ => n.h a o h, fun a h => ?_, fun a o h => (n.n a o h).elim .inl fun z => .inr (.inr z)⟩)
      · rcases List.mem_append.mp h with h | h
        · exact w2.fr a (by simp [h])
        · exact w3.fr a h
      · rcases List.mem_append.mp h with h | h
        · rcases s2.l a (by simp [h]) with q | q
          · simp at q
          · exact .inr q
        · exact .inl h
/-- a resource in a slot stays, the answer is one more -/
theorem er_call1 {sp : Sp} {ds : List D} {E : XK} {ta : TA} {k : Nat} {v : V} {R R' Rn : Res} (h : EvA K m ta Γ ds Γ') (hi : Γ'[k]? = some (.res v R)) (h0 : Γ[k]? = some (.res v R)) (hs : ConR K sp (.res v R :: ds.map .dat) Rn (.res v R' :: ds.map .dat)) :
    EvR K (tCall sp [] E (tCons (tVar k) ta)) Γ Rn (Γ'.set k (.res v R')) := fun σ I H L w Q q => by
  obtain ⟨hσ, _⟩ := w.stepR h0
  refine ⟨v, hσ, ?_⟩
  refine h σ I H L w _ fun vs I1 H1 L1 w1 g1 hv => ?_
  show sp (v :: vs ++ []) H1 Q E
  rw [List.append_nil]
  obtain ⟨_, M1, Mi, M2, rfl, hp, hk⟩ := w1.env.getR hi
  have nd := w1.nd
  have ndA := List.nodup_append.mp nd
  have ndB := List.nodup_append.mp ndA.2.1
  refine hs (v :: vs) I1 H1 Mi ⟨?_, ndB.1, fun a h => w1.fr a (by simp [h]), w1.sub⟩ Q E fun u I2 H2 L2 w2 s2 => ?_
  · have := EnvOk.res (L1 := Mi) (L2 := []) hp (env_dats (H := H1) hv)
    rw [List.append_nil] at this
    exact this
  · have e2 := w2.env
    cases e2 with
    | @res _ _ N0 N1 _ _ pu e2 =>
      cases e2 with
      | @res _ _ N2 N3 _ _ pv e3 =>
        have hN : N3 = [] := by
          have : ∀ {ds : List D} {vs : Sg} {L : List Addr}, EnvOk K I2 H2 (ds.map .dat) vs L → L = [] := by
            intro ds
            induction ds with
            | nil => intro vs L h; cases h; rfl
            | cons d ds ih => intro vs L h; cases h with | dat _ e => exact ih e
          exact this e3
        subst hN
        have ndU := w2.nd
        rw [List.append_nil] at ndU
        have ndU2 := List.nodup_append.mp ndU
        have memU : ∀ a, a ∈ N0 ∨ a ∈ N2 → a ∈ Mi ∨ H1 a = none := fun a h => s2.l a (by simp; exact h)
        have out : ∀ a, a ∈ M1 ++ M2 → a ∉ Mi := fun a h z => by
          rcases List.mem_append.mp h with h | h
          · exact ndA.2.2 a h a (by simp [z]) rfl
          · exact ndB.2.2 a z a h rfl
        have lv : ∀ a, a ∈ M1 ++ M2 → H1 a ≠ none := fun a h => w1.live a (by
          rcases List.mem_append.mp h with h | h
          · simp [h]
          · simp [h])
        have kp : ∀ a, a ∈ M1 ++ M2 → H2 a = H1 a := fun a h => by
          cases e : H1 a with
          | none => exact absurd e (lv a h)
          | some o => exact s2.keep a o e (out a h)
        have apart : ∀ a, a ∈ N0 ∨ a ∈ N2 → a ∉ M1 ++ M2 := fun a h z => (memU a h).elim (out a z) (lv a z)
        have eΓ := hk I2 H2 R' N2 s2.i kp pv
        refine q u I2 H2 (N0 ++ (M1 ++ (N2 ++ M2))) ⟨.res pu eΓ, ?_, fun a h => ?_, w2.sub⟩ (g1.step.trans ⟨s2.i, fun a o e hl => s2.keep a o e fun z => hl (by simp [z]), fun a h => ?_, fun a o h => ?_⟩)
        · refine List.nodup_append.mpr ⟨ndU2.1, List.nodup_append.mpr ⟨ndA.1, List.nodup_append.mpr ⟨ndU2.2.1, ndB.2.1, fun a h b hb e => apart a (.inr h) (by subst e; simp [hb])⟩, fun a h b hb e => ?_⟩, fun a h b hb e => ?_⟩
          · subst e
            rcases List.mem_append.mp hb with hb | hb
            · exact apart a (.inr hb) (by simp [h])
            · exact ndA.2.2 a h a (by simp [hb]) rfl
          · subst e
            simp at hb
            rcases hb with hb | hb | hb
            · exact apart a (.inl h) (by simp [hb])
            · exact ndU2.2.2 a h a hb rfl
            · exact apart a (.inl h) (by simp [hb])
        · by_cases hU : a ∈ N0 ∨ a ∈ N2
          · exact w2.fr a (by simp; exact hU)
          · have ha : a ∈ M1 ++ M2 := by
              simp at h ⊢
              rcases h with h | h | h | h
              · exact absurd (.inl h) hU
              · exact .inl h
              · exact absurd (.inr h) hU
              · exact .inr h
            cases e : I2 a with
            | none => rfl
            | some o =>
              rcases s2.n a o e with q | q | q
              · rw [w1.fr a (by simp at ha ⊢; rcases ha with h | h; exact .inl h; exact .inr (.inr h))] at q; cases q
              · exact absurd q (out a ha)
              · exact absurd q (lv a ha)
        · simp at h
          rcases h with h | h | h | h
          · exact (memU a (.inl h)).elim (fun z => .inl (by simp [z])) .inr
          · exact .inl (by simp [h])
          · exact (memU a (.inr h)).elim (fun z => .inl (by simp [z])) .inr
          · exact .inl (by simp [h])
        · rcases s2.n a o h with q | q | q
          · exact .inl q
          · exact .inr (.inl (by simp [q]))
          · exact .inr (.inr q)

/-! comprehensions whose element changes resources -/
/-- beside a list that is being made -/
theorem Wd.side {σ : Sg} {p : Addr} {xs : List V} (w : Wd K Γ σ I H L) (hp : H p = some (.lst xs)) (hI : I p = none) (hL : p ∉ L) {I' H' : Hp} {L' : List Addr} (s : Step I H L I' H' L') : H' p = some (.lst xs) ∧ I' p = none ∧ p ∉ L' := by
  refine ⟨s.keep p _ hp hL, ?_, fun h => ?_⟩
  · cases e : I' p with
    | none => rfl
    | some o =>
      rcases s.n p o e with q | q | q
      · rw [hI] at q; cases q
      · exact absurd q hL
      · rw [hp] at q; cases q
  · rcases s.l p h with q | q
    · exact hL q
    · rw [hp] at q; cases q
theorem er_lc {wi : TI} {g : TG} {tt : TT} {vs js : List Nat} {ds : List D} (G : Nat → List Sl) (f : Nat → Bool) (w : Nat → D) (hit : ItD K m wi Γ ds (G 0)) (hem : ∀ i, i ≤ ds.length → ∀ k ∈ vs, ((G i)[k]?.all Sl.isEm) = true) (hj : ∀ j ∈ js, j ∈ vs) (hz : ds.length < sizeLine)
    (hs : ∀ i d, i < ds.length → ds[i]? = some d → ∃ Γi Γx, RunG K g js d (G i) Γi ∧ EvT K .e tt Γi (f i) Γx ∧ (f i = true → ∃ Γy, Ev K .e te Γx (w i) Γy ∧ Wk Γy (G (i + 1))) ∧ (f i = false → Wk Γx (G (i + 1)))) :
    EvR K (tLc wi g tt te vs) Γ (Rlst K (((List.range ds.length).filter f).map w)) (G ds.length) := fun σ I H L W0 Q q => hit σ I H L W0 _ fun J I1 H1 L1 Gd Y w1 g1 hG hw hy Dl hD => by
  refine lc_it hw (fun i H' => i ≤ ds.length ∧ ∃ I' L' acc, Wd K (G i) σ I' H' L' ∧ I' Dl = none ∧ Dl ∉ L' ∧ H' Dl = some (.lst acc) ∧ IsA K I' acc (((List.range i).filter f).map w) ∧ Step I1 H1 L1 I' H' (Dl :: L')) ?_ (fun i H' hi q => ?_) (fun i x H' H2 hi q y => ?_) fun H' q' => ?_
  · have hDL : Dl ∉ L1 := fun h => w1.live Dl h hD
    refine ⟨Nat.zero_le _, I1, L1, [], ⟨w1.env.keep (Ex.refl I1) fun a h => upd_ne fun e => hDL (e ▸ h), w1.nd, w1.fr, fun a o h => Ex.new hD a o (w1.sub a o h)⟩, w1.sub.back hD, hDL, upd_same, by simp; exact .nil, ⟨Ex.refl I1, fun a o h _ => Ex.new hD a o h, fun a h => ?_, fun a o h => .inl h⟩⟩
    rcases List.mem_cons.mp h with rfl | h
    · exact .inr hD
    · exact .inl h
  · obtain ⟨_, I', L', acc, w', _, _, _, _, s⟩ := q
    exact hG H' (s.i.trans w'.sub)
  · obtain ⟨_, I', L', acc, w', hID, hLD, hHD, hA, s⟩ := q
    obtain ⟨d, I3, hd, n3, e3, hv⟩ := hy i I' H' x H2 hi s.i w'.sub y
    obtain ⟨Γi, Γx, hg, ht, hyes, hno⟩ := hs i d hi hd
    have w3 := w'.new n3 e3
    obtain ⟨hD3, hI3, hL3⟩ := w'.side hHD hID hLD (n3.step L')
    have w3' : Wd K (G i) (wipe σ vs) I3 H2 L' := ⟨w3.env.wipe (hem i (by omega)), w3.nd, w3.fr, w3.sub⟩
    refine hg x _ I3 H2 L' w3' hv _ fun σ2 w4 e4 => ⟨(e4 vs hj).trans (wipe_idem vs σ), ?_⟩
    refine ht σ2 I3 H2 L' w4 _ fun I5 H5 L5 w5 g5 => ?_
    have g5 : Step I3 H2 L' I5 H5 L5 := g5
    obtain ⟨hD5, hI5, hL5⟩ := w4.side hD3 hI3 hL3 g5
    have back : ∀ {Γ : List Sl} {I6 H6 : Hp} {L6 : List Addr}, Wd K Γ σ2 I6 H6 L6 → (∀ k ∈ vs, (Γ[k]?.all Sl.isEm) = true) → Wd K Γ σ I6 H6 L6 := fun {Γ I6 H6 L6} w6 he => by
      have e : wipe σ2 vs = wipe σ vs := (e4 vs hj).trans (wipe_idem vs σ)
      have := w6.env.wipe he
      rw [e] at this
      exact ⟨this.unwipe he, w6.nd, w6.fr, w6.sub⟩
    have lift : ∀ {I6 H6 : Hp} {L6 : List Addr}, Step I3 H2 L' I6 H6 L6 → Step I1 H1 L1 I6 H6 (Dl :: L6) := fun {I6 H6 L6} s6 => by
      have s36 := (n3.step L').trans s6
      refine ⟨s.i.trans s36.i, fun a o h hl => ?_, fun a h => ?_, fun a o h => ?_⟩
      · have h' := s.keep a o h hl
        refine s36.keep a o h' fun z => ?_
        rcases s.l a (by simp [z]) with q | q
        · exact hl q
        · rw [h] at q; cases q
      · rcases List.mem_cons.mp h with rfl | h
        · exact .inr hD
        · rcases s36.l a h with q | q
          · exact s.l a (by simp [q])
          · by_cases hL1 : a ∈ L1
            · exact .inl hL1
            · cases e : H1 a with
              | none => exact .inr rfl
              | some o => rw [s.keep a o e hL1] at q; cases q
      · rcases s36.n a o h with q | q | q
        · exact s.n a o q
        · exact .inr (s.l a (by simp [q]))
        · by_cases hL1 : a ∈ L1
          · exact .inr (.inl hL1)
          · cases e : H1 a with
            | none => exact .inr (.inr rfl)
            | some o => rw [s.keep a o e hL1] at q; cases q
    cases hf : f i with
    | false =>
      obtain ⟨L6, w6, s6⟩ := w5.weak (hno hf)
      obtain ⟨hD6, hI6, hL6⟩ := w5.side hD5 hI5 hL5 s6
      have w7 := back w6 (hem (i + 1) (by omega))
      refine ⟨by omega, I5, L6, acc, w7, hI6, hL6, hD6, ?_, lift (g5.trans s6)⟩
      rw [List.range_succ, List.filter_append, List.filter_cons, if_neg (by rw [hf]; decide)]
      simp only [List.filter_nil, List.append_nil]
      exact hA.mono (n3.i.trans g5.i)
    | true =>
      obtain ⟨Γy, hE, hW⟩ := hyes hf
      show te σ2 H5 _
      refine hE σ2 I5 H5 L5 w5 _ fun v I6 H6 L6 w6 g6 hv6 => ?_
      have g6 : Step I5 H5 L5 I6 H6 L6 := g6
      obtain ⟨L7, w7, s7⟩ := w6.weak hW
      have s67 := g6.trans s7
      obtain ⟨hD7, hI7, hL7⟩ := w5.side hD5 hI5 hL5 s67
      have w8 := back w7 (hem (i + 1) (by omega))
      have hla := hA.length
      have lenF : (((List.range i).filter f).map w).length ≤ i := by
        rw [List.length_map]
        exact Nat.le_trans (List.length_filter_le _ _) (by rw [List.length_range]; exact Nat.le_refl _)
      have L9 := lift (g5.trans s67)
      refine ⟨acc, hD7, by rw [hla]; exact Nat.lt_of_le_of_lt lenF (by omega), by omega, I6, L7, acc ++ [v], ⟨w8.env.keep (Ex.refl I6) fun a h => upd_ne fun e => hL7 (e ▸ h), w8.nd, w8.fr, fun a o h => ?_⟩, hI7, hL7, upd_same, ?_, ⟨L9.i, fun a o h hl => ?_, L9.l, L9.n⟩⟩
      · rw [upd_ne (ne_of_none h hI7)]
        exact w8.sub a o h
      · rw [List.range_succ, List.filter_append, List.filter_cons, if_pos hf, List.map_append]
        simp only [List.filter_nil, List.map_cons, List.map_nil]
        exact (hA.mono (n3.i.trans (g5.i.trans g6.i))).append (.cons hv6 .nil)
      · rw [upd_ne (ne_of_none h hD)]
        exact L9.keep a o h hl
  · obtain ⟨_, I', L', acc, w', hID, hLD, hHD, hA, s⟩ := q'
    refine q (.ref Dl) I' H' (Dl :: L') ⟨.res (L1 := [Dl]) ⟨Dl, acc, rfl, rfl, hHD, hA⟩ w'.env, List.nodup_cons.mpr ⟨hLD, w'.nd⟩, fun a h => ?_, w'.sub⟩ (g1.step.trans s)
    rcases List.mem_cons.mp h with rfl | h
    · exact hID
    · exact w'.fr a h
end
end FD

/-! FD6: objects with fields, dicts, places of resources. -/
namespace FD
open PySem PySem.Spec PyProof.Rows L2

theorem Step.frame {I H I' H' : Hp} {L L' : List Addr} (s : Step I H L I' H' L') (M : List Addr) : Step I H (M ++ L) I' H' (M ++ L') where
  i := s.i
  keep a o h hl := s.keep a o h fun z => hl (by simp [z])
  l a h := by
    rcases List.mem_append.mp h with h | h
    · exact .inl (by simp [h])
    · exact (s.l a h).elim (fun z => .inl (by simp [z])) .inr
  n a o h := (s.n a o h).elim .inl fun z => .inr (z.elim (fun q => .inl (by simp [q])) .inr)

/-- an object of the class at C, its fields by name -/
def Robj (K : PySem.W.Frag) (C : Addr) (ns : List Str) (fs : List Sl) : Res where
  P I v H L := ∃ p dx vs Lf, v = .ref p ∧ L = [p, dx] ++ Lf ∧ p ≠ dx ∧ H p = some (.ins C dx (ns.zip vs)) ∧ H dx = some (.own p) ∧ ns.length = vs.length ∧ EnvOk K I H fs (vs.map some) Lf
  mono e h := by
    obtain ⟨p, dx, vs, Lf, h1, h2, h0, h3, h4, h5, h6⟩ := h
    exact ⟨p, dx, vs, Lf, h1, h2, h0, h3, h4, h5, h6.keep e fun _ _ => rfl⟩
  frame f h := by
    obtain ⟨p, dx, vs, Lf, h1, h2, h0, h3, h4, h5, h6⟩ := h
    subst h2
    exact ⟨p, dx, vs, Lf, h1, rfl, h0, (f p (by simp)).trans h3, (f dx (by simp)).trans h4, h5, h6.keep (Ex.refl _) fun a h => f a (by simp [h])⟩
  live h := by
    obtain ⟨p, dx, vs, Lf, h1, h2, h0, h3, h4, h5, h6⟩ := h
    subst h2
    intro a ha
    simp at ha
    rcases ha with rfl | rfl | ha
    · rw [h3]; exact fun z => nomatch z
    · rw [h4]; exact fun z => nomatch z
    · exact h6.live a ha
/-- a dict's pairs -/
inductive IsK (K : PySem.W.Frag) (I : Hp) : List (Key × V) → List (Key × D) → Prop
  | nil : IsK K I [] []
  | cons {k : Key} {v : V} {d : D} {kvs : List (Key × V)} {es : List (Key × D)} : Is K I v d → IsK K I kvs es → IsK K I ((k, v) :: kvs) ((k, d) :: es)
def look (es : List (Key × D)) (k : Key) : Option D := (es.find? fun e => decide (e.1 = k)).map (·.2)
def putD (es : List (Key × D)) (k : Key) (d : D) : List (Key × D) :=
  if (es.any fun e => decide (e.1 = k)) = true then es.map (fun e => if e.1 = k then (e.1, d) else e) else es ++ [(k, d)]
def dropD (es : List (Key × D)) (k : Key) : List (Key × D) := es.filter fun e => decide (e.1 ≠ k)
def D.dict (es : List (Key × D)) : D := .dic (es.map (·.1)) (es.map (·.2))
section
variable {K : PySem.W.Frag} {I I' : Hp}
theorem IsK.mono (e : Ex I I') : ∀ {kvs : List (Key × V)} {es : List (Key × D)}, IsK K I kvs es → IsK K I' kvs es
  | _, _, .nil => .nil
  | _, _, .cons h t => .cons (h.mono e) (t.mono e)
theorem IsK.len : ∀ {kvs : List (Key × V)} {es : List (Key × D)}, IsK K I kvs es → kvs.length = es.length
  | _, _, .nil => rfl
  | _, _, .cons _ t => by simp [t.len]
theorem IsK.keys : ∀ {kvs : List (Key × V)} {es : List (Key × D)}, IsK K I kvs es → kvs.map (·.1) = es.map (·.1)
  | _, _, .nil => rfl
  | _, _, .cons _ t => by simp [t.keys]
theorem IsK.vals : ∀ {kvs : List (Key × V)} {es : List (Key × D)}, IsK K I kvs es → IsA K I (kvs.map (·.2)) (es.map (·.2))
  | _, _, .nil => .nil
  | _, _, .cons h t => .cons h t.vals
theorem IsK.of : ∀ {kvs : List (Key × V)} {es : List (Key × D)}, kvs.map (·.1) = es.map (·.1) → IsA K I (kvs.map (·.2)) (es.map (·.2)) → IsK K I kvs es
  | [], [], _, _ => .nil
  | [], _ :: _, h, _ => by simp at h
  | _ :: _, [], h, _ => by simp at h
  | (k, v) :: kvs, (k', d) :: es, h, g => by
    simp at h
    obtain ⟨rfl, h⟩ := h
    cases g with
    | cons g1 g2 => exact .cons g1 (IsK.of h g2)
theorem IsK.any (k : Key) : ∀ {kvs : List (Key × V)} {es : List (Key × D)}, IsK K I kvs es → (kvs.any fun e => decide (e.1 = k)) = (es.any fun e => decide (e.1 = k))
  | _, _, .nil => rfl
  | _, _, .cons _ t => by simp [t.any k]
theorem IsK.look (k : Key) : ∀ {kvs : List (Key × V)} {es : List (Key × D)}, IsK K I kvs es → (valV kvs k = none ∧ look es k = none) ∨ ∃ v d, valV kvs k = some v ∧ look es k = some d ∧ Is K I v d
  | _, _, .nil => .inl ⟨rfl, rfl⟩
  | _, _, .cons (k := k') (v := v) (d := d) h t => by
    by_cases e : k' = k
    · subst e
      exact .inr ⟨v, d, valV_pos rfl, by simp [FD.look], h⟩
    · rw [valV_neg e]
      have : ∀ es : List (Key × D), FD.look ((k', d) :: es) k = FD.look es k := fun es => by simp [FD.look, e]
      rw [this]
      exact t.look k
theorem IsK.putIn {k : Key} {v : V} {d : D} (h : Is K I v d) : ∀ {kvs : List (Key × V)} {es : List (Key × D)}, IsK K I kvs es → IsK K I (kvs.map fun kv => if kv.1 = k then (kv.1, v) else kv) (es.map fun e => if e.1 = k then (e.1, d) else e)
  | _, _, .nil => .nil
  | _, _, .cons (k := k') h' t => by
    simp only [List.map_cons]
    by_cases e : k' = k
    · rw [if_pos e, if_pos e]; exact .cons h (IsK.putIn h t)
    · rw [if_neg e, if_neg e]; exact .cons h' (IsK.putIn h t)
theorem IsK.putEnd {k : Key} {v : V} {d : D} (h : Is K I v d) : ∀ {kvs : List (Key × V)} {es : List (Key × D)}, IsK K I kvs es → IsK K I (kvs ++ [(k, v)]) (es ++ [(k, d)])
  | _, _, .nil => .cons h .nil
  | _, _, .cons h' t => .cons h' (IsK.putEnd h t)
theorem IsK.put {k : Key} {v : V} {d : D} (h : Is K I v d) {kvs : List (Key × V)} {es : List (Key × D)} (t : IsK K I kvs es) : IsK K I (putK kvs k v) (putD es k d) := by
  unfold putK putD
  rw [t.any k]
  split
  · exact IsK.putIn h t
  · exact IsK.putEnd h t
theorem is_dict {a : Addr} {kvs : List (Key × V)} {es : List (Key × D)} (h : Rd I a (.dK kvs)) (t : IsK K I kvs es) : Is K I (.ref a) (D.dict es) := .dic h t.keys.symm t.vals
theorem dict_is {v : V} {es : List (Key × D)} (h : Is K I v (D.dict es)) : ∃ a kvs, v = .ref a ∧ Rd I a (.dK kvs) ∧ IsK K I kvs es := by
  unfold D.dict at h
  cases h with
  | dic h1 h2 h3 => exact ⟨_, _, rfl, h1, IsK.of h2.symm h3⟩
end
/-- a dict that may be changed -/
def Rdic (K : PySem.W.Frag) (es : List (Key × D)) : Res where
  P I v H L := ∃ q kvs, v = .ref q ∧ L = [q] ∧ H q = some (.dK kvs) ∧ IsK K I kvs es
  mono e h := by
    obtain ⟨q, kvs, h1, h2, h3, h4⟩ := h
    exact ⟨q, kvs, h1, h2, h3, h4.mono e⟩
  frame f h := by
    obtain ⟨q, kvs, h1, h2, h3, h4⟩ := h
    subst h2
    exact ⟨q, kvs, h1, rfl, (f q (by simp)).trans h3, h4⟩
  live h := by
    obtain ⟨q, kvs, h1, h2, h3, h4⟩ := h
    subst h2
    intro b hb
    simp at hb
    subst hb
    rw [h3]
    exact fun z => nomatch z

/-- the value u holds the resource R at a place of Γ; up: Γ with another resource there -/
def Plc (K : PySem.W.Frag) (Γ : List Sl) (u : V) (R : Res) (up : Res → List Sl) : Prop := ∀ σ I H L, Wd K Γ σ I H L → ∃ Li, R.P I u H Li ∧ Li.Nodup ∧ (∀ a ∈ Li, I a = none) ∧
  ∀ (I' H' : Hp) (R' : Res) (Li' : List Addr), Step I H Li I' H' Li' → Li'.Nodup → (∀ a ∈ Li', I' a = none) → Ex I' H' → R'.P I' u H' Li' → ∃ L', Wd K (up R') σ I' H' L' ∧ Step I H L I' H' L'
/-- te is the place's value, read without more -/
def RefE (K : PySem.W.Frag) (te : TE) (Γ : List Sl) (u : V) : Prop := ∀ σ I H L, Wd K Γ σ I H L → ∀ Q : VK, Q u H → te σ H Q
section
variable {K : PySem.W.Frag} {m : Md} {Γ Γ' Γ1 Γ2 Γ3 : List Sl} {ta tb te tx tl ti td ty : TE} {t u : TT} {x y z d : D} {r r' : R2} {a b c : Bool} {I H I' H' : Hp} {L L' : List Addr} {i j k : Nat} {o : Out} {v w : V} {R R' : Res} {C : Addr} {ns : List Str} {fs : List Sl} {f : Str} {up : Res → List Sl}
theorem plc_slot (h : Γ[k]? = some (.res v R)) : Plc K Γ v R (fun R' => Γ.set k (.res v R')) := fun σ I H L w => (w.stepR h).2
theorem refE_var (h : Γ[k]? = some (.res v R)) : RefE K (tVar k) Γ v := fun σ I H L w Q q => ⟨v, (w.stepR h).1, q⟩
theorem lookup_zip : ∀ {ns : List Str} {vs : List V} {i : Nat} {f : Str} {v : V}, ns.Nodup → ns[i]? = some f → vs[i]? = some v → (ns.zip vs).lookup f = some v
  | [], _, i, _, _, _, h, _ => by simp at h
  | n :: ns, [], i, _, _, _, _, h => by simp at h
  | n :: ns, v :: vs, 0, f, w, _, h, h' => by simp at h h'; subst h h'; simp [List.lookup_cons]
  | n :: ns, v :: vs, i + 1, f, w, nd, h, h' => by
    simp at h h'
    have ne : (f == n) = false := beq_eq_false_iff_ne.mpr fun e => (List.nodup_cons.mp nd).1 (e ▸ List.mem_of_getElem? h)
    show ((n, v) :: ns.zip vs).lookup f = some w
    rw [List.lookup_cons, ne]
    exact lookup_zip (List.nodup_cons.mp nd).2 h h'
theorem refE_fld (nd : ns.Nodup) (c : Cls K C) (hn : NoAttr K C f) (hr : RefE K te Γ v) (hp : Plc K Γ v (Robj K C ns fs) up) (hi : ns[i]? = some f) (hf : fs[i]? = some (.res w R)) : RefE K (tFld K te f) Γ w := fun σ I H L wd Q q => by
  obtain ⟨Li, ⟨p, dx, vs, Lf, rfl, rfl, _, h3, h4, h5, h6⟩, _⟩ := hp σ I H L wd
  refine hr σ I H L wd _ ⟨p, C, dx, _, w, rfl, h3, c, hn, ?_, q⟩
  obtain ⟨e, _⟩ := h6.getR hf
  exact lookup_zip nd hi (by simpa using e)
/-- a field's data -/
theorem ev_fld (nd : ns.Nodup) (c : Cls K C) (hn : NoAttr K C f) (hr : RefE K te Γ v) (hp : Plc K Γ v (Robj K C ns fs) up) (hi : ns[i]? = some f) (hf : fs[i]? = some (.dat d)) : Ev K m (tFld K te f) Γ d Γ := fun σ I H L wd Q q => by
  obtain ⟨Li, ⟨p, dx, vs, Lf, rfl, rfl, _, h3, h4, h5, h6⟩, _⟩ := hp σ I H L wd
  obtain ⟨x, e, hx⟩ := h6.get hf
  exact hr σ I H L wd _ ⟨p, C, dx, _, x, rfl, h3, c, hn, lookup_zip nd hi (by simpa using e), q x I H L wd Guar.refl hx⟩
/-- a resource in a field of the object at a place -/
theorem plc_fld (hp : Plc K Γ v (Robj K C ns fs) up) (hf : fs[i]? = some (.res w R)) : Plc K Γ w R (fun R' => up (Robj K C ns (fs.set i (.res w R')))) := fun σ I H L wd => by
  obtain ⟨Li, ⟨p, dx, vs, Lf, rfl, rfl, hne, h3, h4, h5, h6⟩, nd, fr, fin⟩ := hp σ I H L wd
  have nd2 := List.nodup_append.mp nd
  have wf : Wd K fs (vs.map some) I H Lf := ⟨h6, nd2.2.1, fun a h => fr a (by simp [h]), wd.sub⟩
  obtain ⟨_, Lg, hg, ndg, frg, fing⟩ := wf.stepR hf
  refine ⟨Lg, hg, ndg, frg, fun I' H' R' Lg' s ndg' frg' sub' hR' => ?_⟩
  obtain ⟨Lf', wf', sf⟩ := fing I' H' R' Lg' s ndg' frg' sub' hR'
  have pn : p ∉ Lf := fun h => nd2.2.2 p (by simp) p h rfl
  have dn : dx ∉ Lf := fun h => nd2.2.2 dx (by simp) dx h rfl
  have pn' : p ∉ Lf' := fun h => (sf.l p h).elim pn fun q => by rw [h3] at q; cases q
  have dn' : dx ∉ Lf' := fun h => (sf.l dx h).elim dn fun q => by rw [h4] at q; cases q
  have non : ∀ a, a = p ∨ a = dx → I' a = none := fun a ha => by
    cases e : I' a with
    | none => rfl
    | some o =>
      rcases sf.n a o e with q | q | q
      · rw [fr a (by simp; rcases ha with h | h; exact .inl h; exact .inr (.inl h))] at q; cases q
      · rcases ha with rfl | rfl
        · exact absurd q pn
        · exact absurd q dn
      · rcases ha with rfl | rfl
        · rw [h3] at q; cases q
        · rw [h4] at q; cases q
  refine fin I' H' (Robj K C ns (fs.set i (.res w R'))) ([p, dx] ++ Lf') (sf.frame [p, dx]) (List.nodup_append.mpr ⟨nd2.1, wf'.nd, fun a ha b hb e => ?_⟩) (fun a ha => ?_) sub' ⟨p, dx, vs, Lf', rfl, rfl, hne, sf.keep p _ h3 pn, sf.keep dx _ h4 dn, h5, wf'.env⟩
  · subst e
    simp at ha
    rcases ha with rfl | rfl
    · exact pn' hb
    · exact dn' hb
  · rcases List.mem_append.mp ha with ha | ha
    · exact non a (by simpa using ha)
    · exact wf'.fr a ha

/-! dicts as data -/
theorem ev_dget {es : List (Key × D)} {k : Key} {kd : D} (h1 : Ev K m td Γ (D.dict es) Γ1) (h2 : Ev K m ty Γ1 kd Γ2) (hk : ∀ I v, Is K I v kd → v = kV k) (hl : look es k = some d) : Ev K m (tDGet td ty) Γ d Γ2 := fun σ I H L w Q q =>
  h1 σ I H L w _ fun v I1 H1 L1 w1 g1 hv => h2 σ I1 H1 L1 w1 _ fun y I2 H2 L2 w2 g2 hy => by
    obtain ⟨a, kvs, rfl, hr, hK⟩ := dict_is hv
    rcases (hK.mono g2.i).look k with ⟨_, e⟩ | ⟨x, d', e1, e2, hx⟩
    · rw [e] at hl; cases hl
    · rw [hl] at e2
      cases e2
      exact ⟨a, x, rfl, .inl ⟨kvs, k, w2.sub.rd (g2.i.rd hr), hk _ _ hy, e1.symm⟩, q x I2 H2 L2 w2 (g1.trans g2) hx⟩
theorem ev_din {es : List (Key × D)} {k : Key} {kd : D} (h2 : Ev K m ty Γ kd Γ1) (h1 : Ev K m td Γ1 (D.dict es) Γ2) (hk : ∀ I v, Is K I v kd → v = kV k) : Ev K m (tDIn ty td) Γ (.bl (look es k).isSome) Γ2 := fun σ I H L w Q q =>
  h2 σ I H L w _ fun y I1 H1 L1 w1 g1 hy => h1 σ I1 H1 L1 w1 _ fun v I2 H2 L2 w2 g2 hv => by
    obtain ⟨a, kvs, rfl, hr, hK⟩ := dict_is hv
    have key : (valV kvs k).isSome = (look es k).isSome := by
      rcases hK.look k with ⟨e1, e2⟩ | ⟨x, d', e1, e2, hx⟩
      · rw [e1, e2]; rfl
      · rw [e1, e2]; rfl
    exact ⟨a, _, rfl, .inl ⟨kvs, k, w2.sub.rd hr, hk _ _ hy, rfl⟩, by rw [key]; exact q _ I2 H2 L2 w2 (g1.trans g2) (.bl _)⟩
theorem ev_dnotin {es : List (Key × D)} {k : Key} {kd : D} (h2 : Ev K m ty Γ kd Γ1) (h1 : Ev K m td Γ1 (D.dict es) Γ2) (hk : ∀ I v, Is K I v kd → v = kV k) : Ev K m (tDNotIn ty td) Γ (.bl (!(look es k).isSome)) Γ2 := fun σ I H L w Q q =>
  h2 σ I H L w _ fun y I1 H1 L1 w1 g1 hy => h1 σ I1 H1 L1 w1 _ fun v I2 H2 L2 w2 g2 hv => by
    obtain ⟨a, kvs, rfl, hr, hK⟩ := dict_is hv
    have key : (valV kvs k).isSome = (look es k).isSome := by
      rcases hK.look k with ⟨e1, e2⟩ | ⟨x, d', e1, e2, hx⟩
      · rw [e1, e2]; rfl
      · rw [e1, e2]; rfl
    exact ⟨a, _, rfl, .inl ⟨kvs, k, w2.sub.rd hr, hk _ _ hy, rfl⟩, by rw [key]; exact q _ I2 H2 L2 w2 (g1.trans g2) (.bl _)⟩
theorem kInt {n : Int} : ∀ I v, Is K I v (.int n) → v = kV (.inl n) := fun I v h => by cases h; rfl
theorem kStr {s : Str} : ∀ I v, Is K I v (.str s) → v = kV (.inr s) := fun I v h => by cases h; rfl
/-! dicts at places -/
theorem er_dnew : EvR K tDNewK Γ (Rdic K []) Γ := fun σ I H L w Q q p hp => by
  obtain ⟨w2, s2⟩ := w.allocR (o := .dK []) (R := Rdic K []) hp ⟨p, [], rfl, rfl, upd_same, .nil⟩
  exact q _ _ _ _ w2 s2
theorem ev_dget1P {es es' : List (Key × D)} {k : Key} {kd : D} {up' : Res → List Sl} (hr : RefE K td Γ v) (hp : Plc K Γ v (Rdic K es) up) (h2 : Ev K m ty Γ kd Γ1) (hp' : Plc K Γ1 v (Rdic K es') up') (hk : ∀ I v, Is K I v kd → v = kV k) : Ev K m (tDGet1 td ty) Γ ((look es' k).getD .non) Γ1 := fun σ I H L w Q q =>
  hr σ I H L w _ (by
    obtain ⟨Li, ⟨a, kvs, rfl, _, ha, _⟩, _⟩ := hp σ I H L w
    refine ⟨a, rfl, .inl ⟨kvs, .inl ha⟩, h2 σ I H L w _ fun y I1 H1 L1 w1 g1 hy => ?_⟩
    obtain ⟨Li1, ⟨a1, kvs1, e, _, ha1, hK⟩, _⟩ := hp' σ I1 H1 L1 w1
    cases e
    rcases hK.look k with ⟨e1, e2⟩ | ⟨x, d', e1, e2, hx⟩
    · exact ⟨none, .inl ⟨kvs1, k, .inl ha1, hk _ _ hy, e1.symm⟩, q _ I1 H1 L1 w1 g1 (by rw [e2]; exact .non)⟩
    · exact ⟨some x, .inl ⟨kvs1, k, .inl ha1, hk _ _ hy, e1.symm⟩, q _ I1 H1 L1 w1 g1 (by rw [e2]; exact hx)⟩)
theorem ev_dget2P {es es' : List (Key × D)} {k : Key} {kd e0 : D} {up' : Res → List Sl} (hr : RefE K td Γ v) (hp : Plc K Γ v (Rdic K es) up) (h2 : Ev K m ty Γ kd Γ1) (h3 : Ev K m tx Γ1 e0 Γ2) (hp' : Plc K Γ2 v (Rdic K es') up') (hk : ∀ I v, Is K I v kd → v = kV k) : Ev K m (tDGet2 td ty tx) Γ ((look es' k).getD e0) Γ2 := fun σ I H L w Q q =>
  hr σ I H L w _ (by
    obtain ⟨Li, ⟨a, kvs, rfl, _, ha, _⟩, _⟩ := hp σ I H L w
    refine ⟨a, rfl, .inl ⟨kvs, .inl ha⟩, h2 σ I H L w _ fun y I1 H1 L1 w1 g1 hy => h3 σ I1 H1 L1 w1 _ fun z I2 H2 L2 w2 g2 hz => ?_⟩
    obtain ⟨Li1, ⟨a1, kvs1, e, _, ha1, hK⟩, _⟩ := hp' σ I2 H2 L2 w2
    cases e
    rcases hK.look k with ⟨e1, e2⟩ | ⟨x, d', e1, e2, hx⟩
    · exact ⟨none, .inl ⟨kvs1, k, .inl ha1, hk _ _ hy, e1.symm⟩, q _ I2 H2 L2 w2 (g1.trans g2) (by rw [e2]; exact hz)⟩
    · exact ⟨some x, .inl ⟨kvs1, k, .inl ha1, hk _ _ hy, e1.symm⟩, q _ I2 H2 L2 w2 (g1.trans g2) (by rw [e2]; exact hx)⟩)
theorem ev_dgetP {es : List (Key × D)} {k : Key} {kd : D} (hr : RefE K td Γ v) (h2 : Ev K m ty Γ kd Γ1) (hp' : Plc K Γ1 v (Rdic K es) up) (hk : ∀ I v, Is K I v kd → v = kV k) (hl : look es k = some d) : Ev K m (tDGet td ty) Γ d Γ1 := fun σ I H L w Q q =>
  hr σ I H L w _ (h2 σ I H L w _ fun y I1 H1 L1 w1 g1 hy => by
    obtain ⟨Li1, ⟨a1, kvs1, e, _, ha1, hK⟩, _⟩ := hp' σ I1 H1 L1 w1
    subst e
    rcases hK.look k with ⟨e1, e2⟩ | ⟨x, d', e1, e2, hx⟩
    · rw [hl] at e2; cases e2
    · rw [hl] at e2
      cases e2
      exact ⟨a1, x, rfl, .inl ⟨kvs1, k, .inl ha1, hk _ _ hy, e1.symm⟩, q _ I1 H1 L1 w1 g1 hx⟩)
theorem isSome_of {kvs : List (Key × V)} {es : List (Key × D)} {k : Key} (hK : IsK K I kvs es) : (valV kvs k).isSome = (look es k).isSome := by
  rcases hK.look k with ⟨e1, e2⟩ | ⟨x, d', e1, e2, hx⟩
  · rw [e1, e2]; rfl
  · rw [e1, e2]; rfl
theorem ev_dinP {es : List (Key × D)} {k : Key} {kd : D} (h2 : Ev K m ty Γ kd Γ1) (hr : RefE K td Γ1 v) (hp : Plc K Γ1 v (Rdic K es) up) (hk : ∀ I v, Is K I v kd → v = kV k) : Ev K m (tDIn ty td) Γ (.bl (look es k).isSome) Γ1 := fun σ I H L w Q q =>
  h2 σ I H L w _ fun y I1 H1 L1 w1 g1 hy => hr σ I1 H1 L1 w1 _ (by
    obtain ⟨Li1, ⟨a1, kvs1, rfl, _, ha1, hK⟩, _⟩ := hp σ I1 H1 L1 w1
    exact ⟨a1, _, rfl, .inl ⟨kvs1, k, .inl ha1, hk _ _ hy, rfl⟩, by rw [isSome_of hK]; exact q _ I1 H1 L1 w1 g1 (.bl _)⟩)
theorem ev_dnotinP {es : List (Key × D)} {k : Key} {kd : D} (h2 : Ev K m ty Γ kd Γ1) (hr : RefE K td Γ1 v) (hp : Plc K Γ1 v (Rdic K es) up) (hk : ∀ I v, Is K I v kd → v = kV k) : Ev K m (tDNotIn ty td) Γ (.bl (!(look es k).isSome)) Γ1 := fun σ I H L w Q q =>
  h2 σ I H L w _ fun y I1 H1 L1 w1 g1 hy => hr σ I1 H1 L1 w1 _ (by
    obtain ⟨Li1, ⟨a1, kvs1, rfl, _, ha1, hK⟩, _⟩ := hp σ I1 H1 L1 w1
    exact ⟨a1, _, rfl, .inl ⟨kvs1, k, .inl ha1, hk _ _ hy, rfl⟩, by rw [isSome_of hK]; exact q _ I1 H1 L1 w1 g1 (.bl _)⟩)
/-- d[k] = e -/
theorem run_dput {es : List (Key × D)} {k : Key} {kd : D} {tv : TE} (h1 : Ev K m tv Γ d Γ1) (hr : RefE K td Γ1 v) (h2 : Ev K m ty Γ1 kd Γ2) (hp : Plc K Γ2 v (Rdic K es) up) (hk : ∀ I v, Is K I v kd → v = kV k) (hz : es.length < sizeLine) : Run K (sDPut td ty tv) Γ (.nx (up (Rdic K (putD es k d)))) := fun σ I H L w Dn p =>
  h1 σ I H L w _ fun x I1 H1 L1 w1 g1 hx => hr σ I1 H1 L1 w1 _ (h2 σ I1 H1 L1 w1 _ fun y I2 H2 L2 w2 g2 hy => by
    obtain ⟨Li, ⟨a, kvs, rfl, rfl, ha, hK⟩, nd, fr, fin⟩ := hp σ I2 H2 L2 w2
    obtain ⟨L3, w3, s3⟩ := fin I2 (upd H2 a (.dK (putK kvs k x))) (Rdic K (putD es k d)) [a] ⟨Ex.refl _, fun b o e hb => by rw [upd_ne (by simpa using hb)]; exact e, fun b hb => .inl hb, fun b o e => .inl e⟩ nd fr (fun b o e => by
      rw [upd_ne (ne_of_none e (fr a (by simp)))]
      exact w2.sub b o e) ⟨a, _, rfl, rfl, upd_same, hK.put (hx.mono g2.i)⟩
    exact ⟨a, _, rfl, .inl ⟨kvs, k, ha, hk _ _ hy, by rw [hK.len]; exact hz, rfl⟩, p σ I2 _ L3 w3 ((g1.step.trans g2.step).trans s3)⟩)
/-- what stands in a slot as a dict is data from now on -/
theorem Wd.frzD {σ : Sg} {es : List (Key × D)} (w : Wd K Γ σ I H L) (hi : Γ[i]? = some (.res v (Rdic K es))) :
    ∃ I' L', Wd K (Γ.set i (.dat (D.dict es))) σ I' H L' ∧ Step I H L I' H L' ∧ Is K I' v (D.dict es) := by
  obtain ⟨h1, L1, Li, L2, rfl, ⟨a, kvs, rfl, rfl, ha, hK⟩, hk⟩ := w.env.getR hi
  have Ia : I a = none := w.fr a (by simp)
  have ei : Ex I (upd I a (.dK kvs)) := Ex.new Ia
  have w0 : EnvOk K (upd I a (.dK kvs)) H Γ σ (L1 ++ ([a] ++ L2)) := w.env.keep ei fun _ _ => rfl
  have hd : Is K (upd I a (.dK kvs)) (.ref a) (D.dict es) := is_dict (.inl upd_same) (hK.mono ei)
  have key : ∀ {Γ : List Sl} {σ : Sg} {L : List Addr} {i : Nat}, EnvOk K (upd I a (.dK kvs)) H Γ σ L → L.Nodup → Γ[i]? = some (.res (.ref a) (Rdic K es)) → ∃ L', L'.Sublist L ∧ a ∉ L' ∧ EnvOk K (upd I a (.dK kvs)) H (Γ.set i (.dat (D.dict es))) σ L' := by
    intro Γ σ L i e
    induction e generalizing i with
    | nil => intro _ h; simp at h
    | em x e ih =>
      intro nd h
      cases i with
      | zero => simp at h
      | succ i => obtain ⟨L', s, na, r⟩ := ih nd (by simpa using h); exact ⟨L', s, na, .em x r⟩
    | dat p e ih =>
      intro nd h
      cases i with
      | zero => simp at h
      | succ i => obtain ⟨L', s, na, r⟩ := ih nd (by simpa using h); exact ⟨L', s, na, .dat p r⟩
    | @res Γ σ L1 L2 v R p e ih =>
      intro nd h
      have nd' := List.nodup_append.mp nd
      cases i with
      | zero =>
        simp at h
        obtain ⟨rfl, rfl⟩ := h
        obtain ⟨b, ys, e1, rfl, _, _⟩ := p
        cases e1
        exact ⟨L2, List.sublist_append_right _ _, fun h => nd'.2.2 a (by simp) a h rfl, .dat hd e⟩
      | succ i =>
        have h' : Γ[i]? = some (.res (.ref a) (Rdic K es)) := by simpa using h
        obtain ⟨L', s, na, r⟩ := ih nd'.2.1 h'
        refine ⟨L1 ++ L', List.Sublist.append_left s _, fun h => ?_, .res p r⟩
        rcases List.mem_append.mp h with h | h
        · obtain ⟨_, M1, Mi, M2, hM, ⟨b, ys, e1, rfl, _, _⟩, _⟩ := e.getR h'
          cases e1
          exact nd'.2.2 a h a (by rw [hM]; simp) rfl
        · exact na h
  obtain ⟨L', s, na, r⟩ := key w0 w.nd hi
  have memL : ∀ b, b ∈ L' → b ∈ L1 ++ ([a] ++ L2) := fun b hb => s.subset hb
  refine ⟨upd I a (.dK kvs), L', ⟨r, w.nd.sublist s, fun b hb => ?_, fun b o e => ?_⟩, ⟨ei, fun _ _ h _ => h, fun b hb => .inl (memL b hb), fun b o e => ?_⟩, hd⟩
  · have hne : b ≠ a := fun e => na (e ▸ hb)
    rw [upd_ne hne]
    exact w.fr b (memL b hb)
  · by_cases h : b = a
    · subst h; rw [upd_same] at e; cases e; exact ha
    · rw [upd_ne h] at e; exact w.sub b o e
  · by_cases h : b = a
    · subst h; exact .inr (.inl (by simp))
    · rw [upd_ne h] at e; exact .inl e
theorem Run.frzD {ts : TS} {es : List (Key × D)} (hi : Γ[i]? = some (.res v (Rdic K es))) (h : Run K ts (Γ.set i (.dat (D.dict es))) o) : Run K ts Γ o :=
  Run.ghost (fun σ I H L w => let ⟨I', L', w', s, _⟩ := w.frzD hi; ⟨I', L', w', s⟩) h
/-- a slot's resource taken out -/
theorem EnvOk.takeR : ∀ {Γ : List Sl} {σ : Sg} {L : List Addr} {k : Nat}, EnvOk K I H Γ σ L → Γ[k]? = some (.res v R) → ∃ M1 Mi M2, L = M1 ++ (Mi ++ M2) ∧ R.P I v H Mi ∧ EnvOk K I H (Γ.set k .em) σ (M1 ++ M2)
  | _, _, _, k, .nil, h => by simp at h
  | _, _, _, 0, .em x e, h => by simp at h
  | _, _, _, 0, .dat x e, h => by simp at h
  | _, _, _, 0, .res (L1 := N1) (L2 := N2) q e, h => by simp at h; obtain ⟨rfl, rfl⟩ := h; exact ⟨[], N1, N2, rfl, q, .em _ e⟩
  | _, _, _, k + 1, .em x e, h => by
    obtain ⟨M1, Mi, M2, e1, e2, e3⟩ := EnvOk.takeR (k := k) e (by simpa using h)
    exact ⟨M1, Mi, M2, e1, e2, .em x e3⟩
  | _, _, _, k + 1, .dat q e, h => by
    obtain ⟨M1, Mi, M2, e1, e2, e3⟩ := EnvOk.takeR (k := k) e (by simpa using h)
    exact ⟨M1, Mi, M2, e1, e2, .dat q e3⟩
  | _, _, _, k + 1, .res (L1 := N1) q e, h => by
    obtain ⟨M1, Mi, M2, e1, e2, e3⟩ := EnvOk.takeR (k := k) e (by simpa using h)
    exact ⟨N1 ++ M1, Mi, M2, by rw [e1, List.append_assoc], e2, by rw [List.append_assoc]; exact .res q e3⟩
theorem Wd.takeR {σ : Sg} {k : Nat} (w : Wd K Γ σ I H L) (h : Γ[k]? = some (.res v R)) : σ[k]? = some (some v) ∧ ∃ L', Wd K (.res v R :: Γ.set k .em) (some v :: σ) I H L' ∧ Step I H L I H L' := by
  obtain ⟨M1, Mi, M2, rfl, hp, e⟩ := w.env.takeR h
  have pm : (Mi ++ (M1 ++ M2)).Perm (M1 ++ (Mi ++ M2)) := List.perm_append_comm_assoc Mi M1 M2
  exact ⟨(w.stepR h).1, Mi ++ (M1 ++ M2), ⟨.res hp e, pm.nodup_iff.mpr w.nd, fun a ha => w.fr a (pm.mem_iff.mp ha), w.sub⟩, ⟨Ex.refl I, fun _ _ q _ => q, fun a ha => .inl (pm.mem_iff.mp ha), fun _ _ q => .inl q⟩⟩
/-- return of a slot's resource -/
theorem run_retRes {k : Nat} (h : Γ[k]? = some (.res v R)) : Run K (tRet (tVar k)) Γ (.rtR R (Γ.set k .em)) := fun σ I H L w Dn p => by
  obtain ⟨hσ, L', w', s⟩ := w.takeR h
  exact ⟨v, hσ, p v σ I H L' w' s⟩
end
end FD

/-! FD7: methods, makers, fields written, hidden values. -/
namespace FD
open PySem PySem.Spec PyProof.Rows L2

/-- a resource with a hidden value -/
def Rex (F : V → Res) : Res where
  P I v H L := ∃ w, (F w).P I v H L
  mono e h := h.imp fun w h => (F w).mono e h
  frame f h := h.imp fun w h => (F w).frame f h
  live h := by
    obtain ⟨w, h⟩ := h
    exact (F w).live h
section
variable {K : PySem.W.Frag} {m : Md} {Γ Γ' Γ1 Γ2 Γ3 : List Sl} {ta tb te tx tl ti td ty to : TE} {t u : TT} {x y z d : D} {r r' : R2} {a b c : Bool} {I H I' H' : Hp} {L L' : List Addr} {i j k : Nat} {o : Out} {v w : V} {R R' : Res} {C : Addr} {ns : List Str} {fs : List Sl} {f mm : Str} {up up0 : Res → List Sl}
theorem EnvOk.openX {F : V → Res} : ∀ {Γ : List Sl} {σ : Sg} {L : List Addr} {k : Nat}, EnvOk K I H Γ σ L → Γ[k]? = some (.res v (Rex F)) → ∃ w, EnvOk K I H (Γ.set k (.res v (F w))) σ L
  | _, _, _, k, .nil, h => by simp at h
  | _, _, _, 0, .em x e, h => by simp at h
  | _, _, _, 0, .dat x e, h => by simp at h
  | _, _, _, 0, .res q e, h => by
    simp at h
    obtain ⟨rfl, rfl⟩ := h
    obtain ⟨w, q⟩ := q
    exact ⟨w, .res q e⟩
  | _, _, _, k + 1, .em x e, h => by
    obtain ⟨w, q⟩ := EnvOk.openX (k := k) e (by simpa using h)
    exact ⟨w, .em x q⟩
  | _, _, _, k + 1, .dat p e, h => by
    obtain ⟨w, q⟩ := EnvOk.openX (k := k) e (by simpa using h)
    exact ⟨w, .dat p q⟩
  | _, _, _, k + 1, .res p e, h => by
    obtain ⟨w, q⟩ := EnvOk.openX (k := k) e (by simpa using h)
    exact ⟨w, .res p q⟩
theorem Run.openX {ts : TS} {F : V → Res} (hi : Γ[k]? = some (.res v (Rex F))) (h : ∀ w, Run K ts (Γ.set k (.res v (F w))) o) : Run K ts Γ o := fun σ I H L wd Dn p => by
  obtain ⟨w, e⟩ := wd.env.openX hi
  exact h w σ I H L ⟨e, wd.nd, wd.fr, wd.sub⟩ Dn p
theorem allDat : ∀ {I H : Hp} {ds : List D} {vs : Sg} {L : List Addr}, EnvOk K I H (ds.map .dat) vs L → L = [] := by
  intro I H ds
  induction ds with
  | nil => intro vs L h; cases h; rfl
  | cons d ds ih => intro vs L h; cases h with | dat _ e => exact ih e
/-- a call whose first argument is the resource at a place -/
theorem call_place {sp : Sp} {ds : List D} {vs : List V} {σ : Sg} {E : XK} (w1 : Wd K Γ σ I H L) (hp : Plc K Γ v R up) (hv : IsA K I vs ds) (hs : Con K sp (.res v R :: ds.map .dat) z (.res v R' :: ds.map .dat)) (Q : VK)
    (q : ∀ u I2 H2 L2, Wd K (up R') σ I2 H2 L2 → Step I H L I2 H2 L2 → Is K I2 u z → Q u H2) : sp (v :: vs) H Q E := by
  obtain ⟨Li, hR, nd, fr, fin⟩ := hp σ I H L w1
  refine hs (v :: vs) I H Li ⟨?_, nd, fr, w1.sub⟩ Q E fun u I2 H2 L2 w2 s2 hu => ?_
  · have := EnvOk.res (L1 := Li) (L2 := []) hR (env_dats (H := H) hv)
    rw [List.append_nil] at this
    exact this
  · have e2 := w2.env
    cases e2 with
    | @res _ _ M1 M2 _ _ p e =>
      have hM := allDat e
      subst hM
      rw [List.append_nil] at s2
      have nd2 : M1.Nodup := by simpa using w2.nd
      obtain ⟨L', w3, s3⟩ := fin I2 H2 R' M1 s2 nd2 (fun a h => w2.fr a (by simp [h])) w2.sub p
      exact q u I2 H2 L' w3 s3 hu
theorem ev_callP {sp : Sp} {ds : List D} {E : XK} {ta : TA} (hr : RefE K to Γ v) (h : EvA K m ta Γ ds Γ') (hp : Plc K Γ' v R up) (hs : Con K sp (.res v R :: ds.map .dat) z (.res v R' :: ds.map .dat)) : Ev K .e (tCall sp [] E (tCons to ta)) Γ z (up R') := fun σ I H L w Q q =>
  hr σ I H L w _ (h σ I H L w _ fun vs I1 H1 L1 w1 g1 hv => by
    show sp (v :: vs ++ []) H1 Q E
    rw [List.append_nil]
    exact call_place w1 hp hv hs Q fun u I2 H2 L2 w2 s2 hu => q u I2 H2 L2 w2 (g1.step.trans s2) hu)
theorem no_lookup : ∀ {ns : List Str} {vs : List V}, mm ∉ ns → (ns.zip vs).lookup mm = none
  | [], _, _ => rfl
  | _ :: _, [], _ => rfl
  | n :: ns, v :: vs, h => by
    simp only [List.mem_cons, not_or] at h
    have ne : (mm == n) = false := beq_eq_false_iff_ne.mpr h.1
    show ((n, v) :: ns.zip vs).lookup mm = none
    rw [List.lookup_cons, ne]
    exact no_lookup h.2
/-- what a method's call asks of the object: an instance of the class at C without an attribute of that name -/
def ObjAt (K : PySem.W.Frag) (C : Addr) (mm : Str) (R : Res) : Prop := ∀ I v H L, R.P I v H L → ∃ p dx fv, v = .ref p ∧ H p = some (.ins C dx fv) ∧ fv.lookup mm = none
theorem objAt_obj (h : mm ∉ ns) : ObjAt K C mm (Robj K C ns fs) := fun I v H L ⟨p, dx, vs, Lf, h1, h2, h0, h3, h4, h5, h6⟩ => ⟨p, dx, _, h1, h3, no_lookup h⟩
theorem objAt_ex {F : V → Res} (h : ∀ w, ObjAt K C mm (F w)) : ObjAt K C mm (Rex F) := fun I v H L ⟨w, q⟩ => h w I v H L q
theorem ev_meth {sp : Sp} {ds : List D} {E : XK} {ta : TA} (hr : RefE K to Γ v) (hp0 : Plc K Γ v R up0) (hc : ObjAt K C mm R) (h : EvA K m ta Γ ds Γ') (hp : Plc K Γ' v R up) (hs : Con K sp (.res v R :: ds.map .dat) z (.res v R' :: ds.map .dat)) : Ev K .e (tMeth C mm sp [] E to ta) Γ z (up R') := fun σ I H L w Q q =>
  hr σ I H L w _ (by
    obtain ⟨Li, hR, _⟩ := hp0 σ I H L w
    obtain ⟨p, dx, fv, rfl, e1, e2⟩ := hc _ _ _ _ hR
    refine ⟨p, dx, fv, rfl, e1, e2, h σ I H L w _ fun vs I1 H1 L1 w1 g1 hv => ?_⟩
    show sp (V.ref p :: (vs ++ [])) H1 Q E
    rw [List.append_nil]
    exact call_place w1 hp hv hs Q fun u I2 H2 L2 w2 s2 hu => q u I2 H2 L2 w2 (g1.step.trans s2) hu)
/-- with keywords behind, in the parameters' order -/
def tMethN (C : Addr) (mm : Str) (n l : Nat) (sp : Sp) (gV : List V → List V → List V) (E : XK) (to : TE) (t tk : TA) : TE := fun σ H Q => to σ H fun x H1 => ∃ a dx fs, x = .ref a ∧ H1 a = some (.ins C dx fs) ∧ fs.lookup mm = none ∧
  t σ H1 fun vs H2 => tk σ H2 fun zs H3 => (x :: vs).length = n ∧ zs.length = l ∧ sp (gV (x :: vs) zs) H3 Q E
theorem ev_methN {sp : Sp} {ds es : List D} {E : XK} {ta tk : TA} {n l : Nat} {gV : List V → List V → List V} (hr : RefE K to Γ v) (hp0 : Plc K Γ v R up0) (hc : ObjAt K C mm R) (h : EvA K m ta Γ ds Γ1) (h2 : EvA K m tk Γ1 es Γ') (hp : Plc K Γ' v R up)
    (hn : ds.length + 1 = n) (hl : es.length = l) (hg : ∀ vs zs, vs.length = ds.length → zs.length = es.length → gV (v :: vs) zs = v :: (vs ++ zs)) (hs : Con K sp (.res v R :: (ds ++ es).map .dat) z (.res v R' :: (ds ++ es).map .dat)) : Ev K .e (tMethN C mm n l sp gV E to ta tk) Γ z (up R') := fun σ I H L w Q q =>
  hr σ I H L w _ (by
    obtain ⟨Li, hR, _⟩ := hp0 σ I H L w
    obtain ⟨p, dx, fv, rfl, e1, e2⟩ := hc _ _ _ _ hR
    refine ⟨p, dx, fv, rfl, e1, e2, h σ I H L w _ fun vs I1 H1 L1 w1 g1 hv => h2 σ I1 H1 L1 w1 _ fun zs I2 H2 L2 w2 g2 hz => ⟨by rw [List.length_cons, hv.length]; exact hn, by rw [hz.length]; exact hl, ?_⟩⟩
    rw [hg vs zs hv.length hz.length]
    exact call_place w2 hp ((hv.mono g2.i).append hz) hs Q fun u I3 H3 L3 w3 s3 hu => q u I3 H3 L3 w3 ((g1.step.trans g2.step).trans s3) hu)
/-! a new object -/
theorem make_new {σ : Sg} {sp : Sp} {ds : List D} {vs : List V} {E : XK} {p dx : Addr} {Q : VK} (w1 : Wd K Γ σ I H L) (hp : H p = none) (hd : H dx = none) (hne : dx ≠ p) (hv : IsA K I vs ds) (hs : ∀ v, Con K sp (.res v (Robj K C [] []) :: ds.map .dat) .non (.res v R' :: ds.map .dat))
    (q : ∀ I2 H2 L2, Wd K (.res (.ref p) R' :: Γ) (some (.ref p) :: σ) I2 H2 L2 → Step I H L I2 H2 L2 → Q (.ref p) H2) : sp (.ref p :: vs) (upd (upd H dx (.own p)) p (.ins C dx [])) (fun v H2 => v = .non ∧ Q (.ref p) H2) E := by
  have hpL : p ∉ L := fun h => w1.live p h hp
  have hdL : dx ∉ L := fun h => w1.live dx h hd
  have Ip := w1.sub.back hp
  have Id := w1.sub.back hd
  have exH : Ex H (upd (upd H dx (.own p)) p (.ins C dx [])) := fun a o h => by
    rw [upd_ne (ne_of_none h hp), upd_ne (ne_of_none h hd)]
    exact h
  refine hs (.ref p) (.ref p :: vs) I _ [p, dx] ⟨?_, by simp [Ne.symm hne], fun a h => by simp at h; rcases h with rfl | rfl; exact Ip; exact Id, w1.sub.trans exH⟩ _ E fun u I2 H2 L2 w2 s2 hu => ?_
  · have := EnvOk.res (K := K) (I := I) (H := upd (upd H dx (.own p)) p (.ins C dx [])) (L1 := [p, dx]) (L2 := []) (R := Robj K C [] []) (v := .ref p) ⟨p, dx, [], [], rfl, rfl, Ne.symm hne, upd_same, by rw [upd_ne hne, upd_same], rfl, .nil⟩ (env_dats hv)
    rw [List.append_nil] at this
    exact this
  · cases hu
    refine ⟨rfl, ?_⟩
    have e2 := w2.env
    cases e2 with
    | @res _ _ M1 M2 _ _ pR e =>
      have hM := allDat e
      subst hM
      rw [List.append_nil] at s2 w2
      have nd2 := w2.nd
      have memM : ∀ a ∈ M1, H a = none := fun a h => by
        rcases s2.l a h with q | q
        · simp at q
          rcases q with rfl | rfl
          · exact hp
          · exact hd
        · exact exH.back q
      have n : New I H I2 H2 := ⟨s2.i, fun a o h => s2.keep a o (exH a o h) (by simp; exact ⟨ne_of_none h hp, ne_of_none h hd⟩), fun a o h => by
        rcases s2.n a o h with q | q | q
        · exact .inl q
        · simp at q
          rcases q with rfl | rfl
          · exact .inr hp
          · exact .inr hd
        · exact .inr (exH.back q)⟩
      have w3 := w1.new n w2.sub
      refine q I2 H2 (M1 ++ L) ⟨.res pR w3.env, List.nodup_append.mpr ⟨nd2, w3.nd, fun a h b hb e => w1.live a (e ▸ hb) (memM a h)⟩, fun a h => ?_, w2.sub⟩ ⟨n.i, fun a o h _ => n.h a o h, fun a h => ?_, fun a o h => (n.n a o h).elim .inl fun z => .inr (.inr z)⟩
      · rcases List.mem_append.mp h with h | h
        · exact w2.fr a h
        · exact w3.fr a h
      · rcases List.mem_append.mp h with h | h
        · exact .inr (memM a h)
        · exact .inl h
theorem er_makeR {sp : Sp} {ds : List D} {E : XK} {ta : TA} (h : EvA K m ta Γ ds Γ') (hs : ∀ v, Con K sp (.res v (Robj K C [] []) :: ds.map .dat) .non (.res v R' :: ds.map .dat)) : EvR K (StX.tMakeR C sp E ta) Γ R' Γ' := fun σ I H L w Q q =>
  h σ I H L w _ fun vs I1 H1 L1 w1 g1 hv p dx hp hd hne => make_new w1 hp hd hne hv hs fun I2 H2 L2 w2 s2 => q _ I2 H2 L2 w2 (g1.step.trans s2)
theorem er_make {sp : Sp} {ds : List D} {E : XK} {ta : TA} (h : EvA K m ta Γ ds Γ') (hs : ∀ v, Con K sp (.res v (Robj K C [] []) :: ds.map .dat) .non (.res v R' :: ds.map .dat)) : EvR K (tMake C sp [] E ta) Γ R' Γ' := fun σ I H L w Q q =>
  h σ I H L w _ fun vs I1 H1 L1 w1 g1 hv p dx hp hd hne => by
    show sp (V.ref p :: (vs ++ [])) _ _ E
    rw [List.append_nil]
    exact make_new w1 hp hd hne hv hs fun I2 H2 L2 w2 s2 => q _ I2 H2 L2 w2 (g1.step.trans s2)
/-- *e among arguments: a list's or a tuple's items -/
theorem ea_star {tr : TA} {ds es : List D} (h : Ev K m te Γ x Γ1) (hx : x = .lst ds ∨ x = .tup ds) (hr : EvA K m tr Γ1 es Γ2) : EvA K m (StX.tStar K te tr) Γ (ds ++ es) Γ2 := fun σ I H L w Q q =>
  h σ I H L w _ fun v I1 H1 L1 w1 g1 hv => by
    rcases hx with rfl | rfl
    · cases hv with
      | lst q1 q2 => exact ⟨_, _, rfl, .inr (w1.sub.l q1), hr σ I1 H1 L1 w1 _ fun vs I2 H2 L2 w2 g2 hvs => q _ I2 H2 L2 w2 (g1.trans g2) ((q2.mono g2.i).append hvs)⟩
    · cases hv with
      | tup q1 q2 => exact ⟨_, _, rfl, .inl (w1.sub.t q1), hr σ I1 H1 L1 w1 _ fun vs I2 H2 L2 w2 g2 hvs => q _ I2 H2 L2 w2 (g1.trans g2) ((q2.mono g2.i).append hvs)⟩
/-! fields written -/
theorem putF_new : ∀ {ns : List Str} {vs : List V} {y : V}, f ∉ ns → ns.length = vs.length → putF f y (ns.zip vs) = (ns ++ [f]).zip (vs ++ [y])
  | [], [], _, _, _ => by simp [putF]
  | [], _ :: _, _, _, h => by simp at h
  | _ :: _, [], _, _, h => by simp at h
  | n :: ns, v :: vs, y, h, hl => by
    simp only [List.mem_cons, not_or] at h
    have ih := putF_new (ns := ns) (vs := vs) (y := y) h.2 (by simpa using hl)
    simp only [List.zip_cons_cons, List.cons_append]
    rw [← ih]
    simp [putF, h.1, Ne.symm h.1]
theorem env_snoc {σ : Sg} {L1 L2 : List Addr} (e : EnvOk K I H Γ σ L1) (hR : R.P I v H L2) : EnvOk K I H (Γ ++ [.res v R]) (σ ++ [some v]) (L1 ++ L2) := by
  induction e with
  | nil =>
    have := EnvOk.res (L2 := []) hR (.nil : EnvOk K I H [] [] [])
    rw [List.append_nil] at this
    exact this
  | em x e ih => exact .em x ih
  | dat p e ih => exact .dat p ih
  | res p e ih => rw [List.append_assoc]; exact .res p ih
theorem env_snocD {σ : Sg} {L1 : List Addr} (e : EnvOk K I H Γ σ L1) (hR : Is K I v d) : EnvOk K I H (Γ ++ [.dat d]) (σ ++ [some v]) L1 := by
  induction e with
  | nil => exact .dat hR .nil
  | em x e ih => exact .em x ih
  | dat p e ih => exact .dat p ih
  | res p e ih => exact .res p ih
theorem run_fldD {tv : TE} (h : Ev K m tv Γ d Γ1) (hr : RefE K ta Γ1 v) (hp : Plc K Γ1 v (Robj K C ns fs) up) (c : Cls K C) (hn : NoAttr K C f) (hf : f ∉ ns) (hz : ns.length < 1000) : Run K (sFld K ta tv f) Γ (.nx (up (Robj K C (ns ++ [f]) (fs ++ [.dat d])))) := fun σ I H L wd Dn q =>
  h σ I H L wd _ fun y I1 H1 L1 w1 g1 hy => hr σ I1 H1 L1 w1 _ (by
    obtain ⟨Li, ⟨p, dx, vs, Lf, rfl, rfl, hne, h3, h4, h5, h6⟩, nd, fr, fin⟩ := hp σ I1 H1 L1 w1
    refine ⟨p, C, dx, _, rfl, h3, c, hn, by rw [List.length_zip, h5, Nat.min_self]; omega, ?_⟩
    rw [putF_new hf h5]
    have nd2 := List.nodup_append.mp nd
    have pn : p ∉ Lf := fun h => nd2.2.2 p (by simp) p h rfl
    obtain ⟨L2, w2, s2⟩ := fin I1 (upd H1 p (.ins C dx ((ns ++ [f]).zip (vs ++ [y])))) (Robj K C (ns ++ [f]) (fs ++ [.dat d])) ([p, dx] ++ Lf) ⟨Ex.refl _, fun b o e hb => by rw [upd_ne (fun z => hb (by simp [z]))]; exact e, fun b hb => .inl hb, fun b o e => .inl e⟩ nd fr (fun b o e => by
      rw [upd_ne (ne_of_none e (fr p (by simp)))]
      exact w1.sub b o e) ⟨p, dx, vs ++ [y], Lf, rfl, rfl, hne, upd_same, by rw [upd_ne (Ne.symm hne)]; exact h4, by simp [h5], by
        have := env_snocD h6 hy
        rw [List.map_append]
        exact this.keep (Ex.refl _) fun a h => upd_ne fun e => pn (e ▸ h)⟩
    exact q σ I1 _ L2 w2 (g1.step.trans s2))
/-- self.f = a new resource -/
theorem run_fldR {tv : TE} (h : EvR K tv Γ R Γ1) (hk : Γ1[k]? = some (.res v (Robj K C ns fs))) (c : Cls K C) (hn : NoAttr K C f) (hf : f ∉ ns) (hz : ns.length < 1000) : Run K (sFld K (tVar k) tv f) Γ (.nx (Γ1.set k (.res v (Rex fun w => Robj K C (ns ++ [f]) (fs ++ [.res w R]))))) := fun σ I H L wd Dn q =>
  h σ I H L wd _ fun y I1 H1 L1 w1 g1 => by
    have e1 := w1.env
    cases e1 with
    | @res _ _ N1 N2 _ _ pR eΓ =>
      have ndN := List.nodup_append.mp w1.nd
      obtain ⟨hσ, M1, Mi, M2, rfl, ⟨p, dx, vs, Lf, rfl, rfl, hne, h3, h4, h5, h6⟩, hk2⟩ := eΓ.getR hk
      refine ⟨_, hσ, p, C, dx, _, rfl, h3, c, hn, by rw [List.length_zip, h5, Nat.min_self]; omega, ?_⟩
      rw [putF_new hf h5]
      have ndA := List.nodup_append.mp ndN.2.1
      have ndB := List.nodup_append.mp ndA.2.1
      have ndC := List.nodup_append.mp ndB.1
      have pLf : p ∉ Lf := fun h => ndC.2.2 p (by simp) p h rfl
      have pM : p ∉ M1 ++ M2 := fun h => by
        rcases List.mem_append.mp h with h | h
        · exact ndA.2.2 p h p (by simp) rfl
        · exact ndB.2.2 p (by simp) p h rfl
      have pN : p ∉ N1 := fun h => ndN.2.2 p h p (by simp) rfl
      have fr := w1.fr
      have Ip : I1 p = none := fr p (by simp)
      have eF : EnvOk K I1 (upd H1 p (.ins C dx ((ns ++ [f]).zip (vs ++ [y])))) (fs ++ [.res y R]) ((vs ++ [y]).map some) (Lf ++ N1) := by
        have e := env_snoc h6 pR
        rw [List.map_append]
        exact e.keep (Ex.refl _) fun a ha => upd_ne fun e => by
          subst e
          rcases List.mem_append.mp ha with ha | ha
          · exact pLf ha
          · exact pN ha
      have e2 := hk2 I1 (upd H1 p (.ins C dx ((ns ++ [f]).zip (vs ++ [y])))) (Rex fun w => Robj K C (ns ++ [f]) (fs ++ [.res w R])) ([p, dx] ++ (Lf ++ N1)) (Ex.refl _) (fun a ha => upd_ne fun e => pM (e ▸ ha)) ⟨y, p, dx, vs ++ [y], Lf ++ N1, rfl, rfl, hne, upd_same, by rw [upd_ne (Ne.symm hne)]; exact h4, by simp [h5], eF⟩
      have pm : (M1 ++ (([p, dx] ++ (Lf ++ N1)) ++ M2)).Perm (N1 ++ (M1 ++ (([p, dx] ++ Lf) ++ M2))) := by
        have q1 : (M1 ++ (([p, dx] ++ (Lf ++ N1)) ++ M2)) = (M1 ++ ([p, dx] ++ Lf)) ++ (N1 ++ M2) := by simp
        have q2 : (N1 ++ (M1 ++ (([p, dx] ++ Lf) ++ M2))) = N1 ++ ((M1 ++ ([p, dx] ++ Lf)) ++ M2) := by simp
        rw [q1, q2]
        exact List.perm_append_comm_assoc _ _ _
      refine q σ I1 _ _ ⟨e2, pm.nodup_iff.mpr w1.nd, fun a ha => fr a (pm.mem_iff.mp ha), fun a o e => ?_⟩ (g1.trans ⟨Ex.refl _, fun a o e ha => ?_, fun a ha => .inl (pm.mem_iff.mp ha), fun a o e => .inl e⟩)
      · rw [upd_ne (ne_of_none e Ip)]
        exact w1.sub a o e
      · rw [upd_ne (fun z => ha (by rw [z]; simp))]
        exact e
end
end FD

/-! FD8: more rules of calls. -/
namespace FD
open PySem PySem.Spec PyProof.Rows L2
section
variable {X : Cx} {CX : CXT} {k n : Nat} {C f : Addr} {fd : FuncData} {ps ks : List Str} {sp : Sp} {E : XK} {m : Str} {apos pos : Pos} {e o : Expr} {es : List Expr} {kws : List Keyword} {ta : TE} {t tk : TA} {g : List Value → List Value → List Value} {gV : List V → List V → List V}
/-- o.m(e, .., k = v, ..) -/
theorem pe_methN {pl : Sem Bool} (he : PE X o ta) (c : Cls X.K C) (hm : Meth X.K C m f) (F : FnOk X.prog X.w X.K X.mg X.base CX k f fd ps sp) (hr : Room k X.A) (hb : KBn X.K fd ps n ks g gV) (hx : Passes CX X E)
    (ha : PA X (e :: es) t) (hkw : PK X kws tk) (hall : (backToKw pos (keywordEach kws X.env)).all (·.1.isSome) = true := by rfl) (hks : (backToKw pos (keywordEach kws X.env)).filterMap (·.1) = ks := by rfl)
    (hst : starEach (e :: es) X.env = (false, eval e X.env) :: starEach es X.env := by rfl)
    (hpl : ((backTo pos (starEach (e :: es) X.env)).any (·.1) || (backToKw pos (keywordEach kws X.env)).any (·.1.isNone)) = false := by rfl)
    (ht : eval (.Call (.Attribute o m apos) (e :: es) kws pos) X.env = (do
      let ov ← eval o X.env
      standAt apos.atName
      let (f, first) ← holding [ov] (getMethod ov m pl)
      callWith pos f first (backTo pos (starEach (e :: es) X.env)) (backToKw pos (keywordEach kws X.env))) := by rfl) :
    PE X (.Call (.Attribute o m apos) (e :: es) kws pos) (tMethN C m n ks.length sp gV E ta t tk) := by
  refine ⟨fun pins s σ H Q I h => ?_⟩
  refine PySem.W.methodCall_KW (pl := pl) (thn (he.run pins s σ H _ I h) fun u s1 ⟨x, H1, I1, rx, a, dx, fs, ex, ea, l, q⟩ => ?_) ht
  subst ex
  obtain rfl : u = Value.ref a := rx
  refine getmeth_ok I1 ea c hm l ?_
  refine PySem.W.callWith_KW (first := [.ref a]) (h₀ := X.base) I.ok.mod.kin hm.kp hall (thn (ha.run pos pins s1 σ H1 _ I1 q) fun us s2 ⟨vs, H2, I2, r, q2⟩ => ?_) hpl hst
  refine thn (hkw.run pos pins s2 σ H2 _ I2 q2) fun ws s3 ⟨zs, H3, I3, rz, l1, l2, q3⟩ => ⟨I3.kIn, ?_⟩
  rw [hks]
  exact run_fnN (us := .ref a :: us) (vs := .ref a :: vs) F hr hb hx I3 (.cons rfl r) rz l1 l2 q3
end
end FD

/-! FD9: comparisons of any data, of dicts; isinstance; is. -/
namespace FD
open PySem PySem.Spec PyProof.Rows L2
/-! ### < and its like -/
def Cmpb (d e : PyData) : Prop := PySem.W.alike d e = true ∧ d ≠ .none ∧ d.depth ≤ 60
def rCmpD (K : PySem.W.Frag) (f : PyData → PyData → Bool) : R2 := fun x y H Q => ∃ d e, Dp K H x d ∧ Dp K H y e ∧ Cmpb d e ∧ Q (.bl (f d e)) H
section
variable {X : Cx}
theorem op_cmpD {c : Value → Value → Sem Value} {f : PyData → PyData → Bool} (hu : X.A.units + 64 < cLine)
    (hc : ∀ {prog : Program} {w : PySem.World} {A : Around} {E : Value → Shared → Prop} {s : Shared} {a b : Value} {da db : PyData} {as bs : List Addr} {Q : Value → Shared → Prop}, Reads s.heap a da as → Reads s.heap b db bs → PySem.W.alike da db = true → da ≠ .none → A.units + min da.depth db.depth < cLine → Q (.bool (f da db)) s → wpAny (model prog w) A (c a b) Q E s) : OpR X c (rCmpD X.K f) := by
  intro pins s σ H x y v u Q I rx ry h
  obtain ⟨d, e, hd, he, hc1, q⟩ := h
  obtain ⟨as, r1⟩ := Dp.reads I d x v hd rx
  obtain ⟨bs, r2⟩ := Dp.reads I e y u he ry
  refine hc r1 r2 hc1.1 hc1.2.1 ?_ ⟨.bl _, H, I, rfl, q⟩
  have := hc1.2.2
  have h2 : min d.depth e.depth ≤ d.depth := Nat.min_le_left _ _
  omega
theorem op_ltD (hu : X.A.units + 64 < cLine) : OpR X (compareOp .Lt) (rCmpD X.K PySem.W.dataLt) := op_cmpD hu fun ra rb h hn hu hq => PySem.W.lt_data ra rb h hn hu hq
theorem op_gtD (hu : X.A.units + 64 < cLine) : OpR X (compareOp .Gt) (rCmpD X.K fun d e => PySem.W.dataLt e d) := op_cmpD hu fun ra rb h hn hu hq => PySem.W.gt_data ra rb h hn hu hq
theorem op_leD (hu : X.A.units + 64 < cLine) : OpR X (compareOp .LtE) (rCmpD X.K fun d e => !PySem.W.dataLt e d) := op_cmpD hu fun ra rb h hn hu hq => PySem.W.le_data ra rb h hn hu hq
theorem op_geD (hu : X.A.units + 64 < cLine) : OpR X (compareOp .GtE) (rCmpD X.K fun d e => !PySem.W.dataLt d e) := op_cmpD hu fun ra rb h hn hu hq => PySem.W.ge_data ra rb h hn hu hq
end
section
variable {K : PySem.W.Frag} {x y : D}
theorem opd_cmpD {f : PyData → PyData → Bool} (hx : x.pure = true) (hy : y.pure = true) (h : Cmpb x.py y.py) : OpD K (rCmpD K f) x y (.bl (f x.py y.py)) := fun I H v w s hv hw =>
  pureR_here s (.bl _) fun Q q => ⟨_, _, Is.dp s hx hv, Is.dp s hy hw, h, q⟩
end
/-! ### == of dicts -/
def eqDic (es fs : List (Key × D)) : Bool := es.length == fs.length && es.all fun e => match look fs e.1 with | some d => D.eqv e.2 d | none => false
def shapedV (es : List (Key × D)) : Prop := ∀ e ∈ es, e.2.shaped = true
def rEqDic (K : PySem.W.Frag) (ng : Bool) : R2 := fun x y H Q => ∃ a b kvs kws es fs, x = .ref a ∧ y = .ref b ∧ Rd H a (.dK kvs) ∧ Rd H b (.dK kws) ∧ IsK K H kvs es ∧ IsK K H kws fs ∧ shapedV es ∧ shapedV fs ∧ Q (.bl (eqDic es fs ^^ ng)) H
section
variable {X : Cx} {pins : List (Addr × Obj)} {σ : Sg} {H : Hp} {s : Shared}
theorem dic_hits (I : Inv X pins σ H s) {A : Around} (hu : A.units + 64 < cLine) {kws : List (Key × V)} {fs : List (Key × D)} {vb : List (Key × Value)} (hb : IsK X.K H kws fs) (rb : KV kws vb) (sb : shapedV fs) : ∀ {kvs : List (Key × V)} {es : List (Key × D)} {va : List (Key × Value)}, IsK X.K H kvs es → KV kvs va → shapedV es →
    PySem.W.KeqHits A s vb va (es.all fun e => match look fs e.1 with | some d => D.eqv e.2 d | none => false)
  | _, _, _, .nil, ra, _ => by
    cases ra
    exact .nil
  | _, _, _, .cons (k := k) (v := v) (d := d) (es := es) hd ha, ra, sa => by
    cases ra with
    | @cons _ q _ qs hq t =>
      obtain ⟨h1, h2⟩ := hq
      obtain ⟨key, u⟩ := q
      cases (show k = key from h1)
      have ih := dic_hits I hu hb rb sb ha t fun e he => sa e (by simp [he])
      rw [List.all_cons]
      have rr := rb.val k
      rcases hb.look k with ⟨e1, e2⟩ | ⟨y, d2, e1, e2, hy⟩
      · rw [e1] at rr
        rw [e2]
        exact .miss (RelO.none_of rr)
      · rw [e1] at rr
        obtain ⟨y', hy', ry⟩ := rr.some_of
        rw [e2]
        obtain ⟨as, r1⟩ := Dp.reads I d.py v u (Is.dp (Ex.refl H) (by have := sa _ List.mem_cons_self; simp [D.shaped] at this; exact this.1) hd) h2
        have hs2 : d2.shaped = true := by
          unfold look at e2
          cases hf : fs.find? (fun e => decide (e.1 = k)) with
          | none => rw [hf] at e2; cases e2
          | some e => rw [hf] at e2; cases e2; exact sb e (List.mem_of_find?_eq_some hf)
        have hs1 : d.shaped = true := sa _ List.mem_cons_self
        simp only [D.shaped, Bool.and_eq_true] at hs1 hs2
        obtain ⟨bs, r2⟩ := Dp.reads I d2.py y y' (Is.dp (Ex.refl H) hs2.1 hy) ry
        exact .hit hy' (SeqAt.eqAt_reads _ _ A s u y' as bs r1 r2 (SeqAt.canLay_of_shaped hs1.2) (SeqAt.canLay_of_shaped hs2.2) (SeqAt.room_of_shaped hs1.2 hu)) ih
theorem eqDic_run (I : Inv X pins σ H s) {a b : Addr} {kvs kws : List (Key × V)} {es fs : List (Key × D)} (ha : Rd H a (.dK kvs)) (hb : Rd H b (.dK kws)) (h1 : IsK X.K H kvs es) (h2 : IsK X.K H kws fs) (s1 : shapedV es) (s2 : shapedV fs) :
    ∃ ka kb, (a == sysModules) = false ∧ (b == sysModules) = false ∧ s.heap.DictOf (mixKind X.prog X.w) a ka ∧ s.heap.DictOf (mixKind X.prog X.w) b kb ∧ ka.length = es.length ∧ kb.length = fs.length ∧ ∀ {A : Around}, A.units + 64 < cLine → PySem.W.KeqHits A s kb ka (es.all fun e => match look fs e.1 with | some d => D.eqv e.2 d | none => false) := by
  obtain ⟨_, ya, va, ra, da⟩ := dk_rd I.hok ha
  obtain ⟨_, yb, vb, rb, db⟩ := dk_rd I.hok hb
  exact ⟨va, vb, ya, yb, da, db, by rw [← ra.length, h1.len], by rw [← rb.length, h2.len], fun hu => dic_hits I hu h2 rb s2 h1 ra s1⟩
end
section
variable {X : Cx}
theorem op_eqDic (hu : X.A.units + 65 < cLine) : OpR X (compareOp .Eq) (rEqDic X.K false) := by
  intro pins s σ H x y v u Q I rx ry h
  obtain ⟨a, b, kvs, kws, es, fs, rfl, rfl, ha, hb, h1, h2, s1, s2, q⟩ := h
  cases (show v = Value.ref a from rx)
  cases (show u = Value.ref b from ry)
  obtain ⟨ka, kb, ya, yb, da, db, la, lb, hits⟩ := eqDic_run I ha hb h1 h2 s1 s2
  refine PySem.W.keq_eq ya yb da db (by omega) (fun _ => hits (by show X.A.units + 1 + 64 < cLine; omega)) ⟨.bl _, H, I, rfl, ?_⟩
  rw [la, lb]
  simpa [eqDic] using q
theorem op_neDic (hu : X.A.units + 65 < cLine) : OpR X (compareOp .NotEq) (rEqDic X.K true) := by
  intro pins s σ H x y v u Q I rx ry h
  obtain ⟨a, b, kvs, kws, es, fs, rfl, rfl, ha, hb, h1, h2, s1, s2, q⟩ := h
  cases (show v = Value.ref a from rx)
  cases (show u = Value.ref b from ry)
  obtain ⟨ka, kb, ya, yb, da, db, la, lb, hits⟩ := eqDic_run I ha hb h1 h2 s1 s2
  refine PySem.W.keq_ne ya yb da db (by omega) (fun _ => hits (by show X.A.units + 1 + 64 < cLine; omega)) ⟨.bl _, H, I, rfl, ?_⟩
  rw [la, lb]
  simpa [eqDic, Bool.xor_true] using q
end
section
variable {K : PySem.W.Frag}
theorem opd_eqDic {es fs : List (Key × D)} {ng : Bool} (h1 : shapedV es) (h2 : shapedV fs) : OpD K (rEqDic K ng) (D.dict es) (D.dict fs) (.bl (eqDic es fs ^^ ng)) := fun I H v w s hv hw => by
  obtain ⟨a, kvs, rfl, ra, ka⟩ := dict_is hv
  obtain ⟨b, kws, rfl, rb, kb⟩ := dict_is hw
  exact pureR_here s (.bl _) fun Q q => ⟨a, b, kvs, kws, es, fs, rfl, rfl, s.rd ra, s.rd rb, ka.mono s, kb.mono s, h1, h2, q⟩
end
end FD

/-! FDa: isinstance, is, sorted and list of dicts. -/
namespace FD
open PySem PySem.Spec PyProof.Rows L2
def D.tyN : D → String
  | .non => "NoneType" | .bl _ => "bool" | .int _ => "int" | .str _ => "str" | .lst _ => "list" | .tup _ => "tuple" | .dic _ _ => "dict" | .ins _ _ _ => "" | .raw _ => ""
def D.typed : D → Bool
  | .ins _ _ _ => false | .raw _ => false | _ => true
section
variable {K : PySem.W.Frag} {x : D} {I H : Hp} {v : V}
theorem tyx_rdL {a : Addr} {xs : List V} (h : Rd H a (.lst xs)) : TyX K H (.ref a) (.type "list") := by
  rcases h with h | ⟨o, h⟩
  · exact .base (.lst h)
  · exact .base (.frz h)
theorem tyx_rdD {a : Addr} {xs : List (Key × V)} (h : Rd H a (.dK xs)) : TyX K H (.ref a) (.type "dict") := by
  rcases h with h | ⟨o, h⟩
  · exact .base (.dK h)
  · exact .fDict h
theorem tyx_sqL {a : Addr} {xs : List V} (h : SqL K H a xs) : TyX K H (.ref a) (.type "list") := by
  rcases h with h | ⟨o, its, n, h1, h2, h3, _⟩
  · exact tyx_rdL h
  · exact .kList h1 h2
theorem tyx_sqT {a : Addr} {xs : List V} (h : SqT K H a xs) : TyX K H (.ref a) (.type "tuple") := by
  rcases h with h | ⟨o, its, n, h1, h2, h3, _⟩
  · rcases h with h | ⟨o, h⟩
    · exact .base (.tup h)
    · exact .fTuple h
  · exact .kTuple h1 h2
theorem Is.tyx (e : Ex I H) (h : Is K I v x) (t : x.typed = true) : TyX K H v (.type x.tyN) := by
  cases h with
  | non => exact .base .non
  | bl b => exact .base (.bl b)
  | int i => exact .base (.int i)
  | str s => exact .base (.str s)
  | lst h1 h2 => exact tyx_sqL (e.l h1)
  | tup h1 h2 => exact tyx_sqT (e.t h1)
  | dic h1 h2 h3 => exact tyx_rdD (e.rd h1)
  | ins _ _ _ => cases t
  | raw v => cases t
theorem cd_isi {T : String} {b : Bool} (t : x.typed = true) (h : kitB x.tyN T = some b) : CallD K (rIsi K) [x, .raw (.ty T)] (.bl b) := fun I H vs s hv => by
  cases hv with
  | cons h1 h2 =>
    cases h2 with
    | cons h2 h3 =>
      cases h3
      cases h2
      exact pureR_here s (.bl b) fun Q q => ⟨_, _, _, _, b, rfl, .ty T, h1.tyx s t, kit_ty h, q⟩
theorem opd_isBl {a b : Bool} : OpD K (fun x y H Q => ∃ a b, x = .bl a ∧ y = .bl b ∧ Q (.bl (decide (a = b))) H) (.bl a) (.bl b) (.bl (decide (a = b))) := fun I H v w s hv hw => by
  cases hv; cases hw
  exact pureR_here s (.bl _) fun Q q => ⟨a, b, rfl, rfl, q⟩
theorem opd_isnotBl {a b : Bool} : OpD K (fun x y H Q => ∃ a b, x = .bl a ∧ y = .bl b ∧ Q (.bl (!decide (a = b))) H) (.bl a) (.bl b) (.bl (!decide (a = b))) := fun I H v w s hv hw => by
  cases hv; cases hw
  exact pureR_here s (.bl _) fun Q q => ⟨a, b, rfl, rfl, q⟩
end
example : kitB "bool" "bool" = some true := by decide +kernel
example : kitB "tuple" "tuple" = some true := by decide +kernel
example : kitB "int" "bool" = some false := by decide +kernel
end FD

/-! FDb: max and min of two data. -/
namespace PySem.W
open PySem PySem.Spec PyProof.Rows
section
variable {prog : Program} {w : World} {A : Around} {E : Value → Shared → Prop} {s : Shared}
theorem fd_max2 {a b : Value} {da db : PyData} {as bs : List Addr} {Q : Value → Shared → Prop} (hh : A.handled = none) (ra : Reads s.heap a da as) (rb : Reads s.heap b db bs) (ha : AlikeAll [da, db]) (hu : A.units + 1 + PyData.depthAll [da, db] < cLine)
    (h : ∀ h' tk, (∀ c o, s.heap.get? c = some o → h'.get? c = some o) → Q (if dataLt da db then b else a) { s with heap := h', toks := tk }) : wpAny (model prog w) A (call (.builtin "max") [a, b]) Q E s := by
  have hname : (toString "max" ++ toString ".loop" : String) = "max.loop" := by decide
  refine call_function_tree F.kind_max F.plain_max F.entry_max (F.args_max2 _ _) ?_
  show wpAny _ A.in1 (Builtin.Builtins.bindParams "max" ["key", "default"] 0 ⟨[], []⟩ >>= _) _ _ s
  refine wpAny_bind (wpAny_of_eq (show Builtin.Builtins.bindParams "max" ["key", "default"] 0 ⟨[], []⟩ = pure [none, none] from rfl) ?_)
  show wpAny _ A.in1 (newTuple [a, b] >>= _) _ _ s
  refine wpAny_bind (wpAny_newObj_type ?_)
  have kp : ∀ (c : Addr) o, s.heap.get? c = some o → (s.heap.push { cls := .type "tuple", data := .seq #[a, b] }).get? c = some o := fun c o e => Heap.get?_push_of_some _ e
  have hr : ReadsAll (s.heap.push { cls := .type "tuple", data := .seq #[a, b] }) (#[a, b] : Array Value).toList [da, db] (as ++ (bs ++ [])) := .cons (reads_keeps kp ra) (.cons (reads_keeps kp rb) .nil)
  have hT : (s.heap.push { cls := .type "tuple", data := .seq #[a, b] }).IsTuple s.heap.objs.size #[a, b] := ⟨_, Heap.get?_push_size _ rfl, rfl, _, rfl⟩
  refine wpAny_bind (iter_tupleW (A := A.in1) hh hT fun s₂ e W st hfp hw hk => ?_)
  refine wpAny_bind (wpAny_newObj_type ?_)
  have hSf : s₂.heap.objs.size ∉ [(s.heap.push { cls := .type "tuple", data := .seq #[a, b] }).objs.size, s.heap.objs.size] := fun hm => Nat.lt_irrefl _ (hfp _ hm)
  rw [hname]
  refine wpAny_pure ⟨plainId_quiet F.plain_max_loop _, codeAny_max_loop_firstH W _ hw _ (cmpIn_gt (A := A.in1) hr ha (by show A.units + 1 + _ < _; exact hu)) s₂.heap.objs.size hSf (fresh_in hk) _ (by simp) (fun b o e => Heap.get?_push_of_some _ (hk b o e)) (W.frame 0 s₂ _ s₂.toks st (Nat.le_refl _) fun b _ o e => Heap.get?_push_of_some _ e) (Heap.get?_push_size _ rfl) fun v s' hP hm => ?_⟩
  have m := Moved.drop_new (tk := s₂.toks) hm (Nat.le_refl _)
  obtain ⟨h', tk, rfl, hk'⟩ := moved_old e rfl m
  have e2 : v = if dataLt da db then b else a := by
    have e1 : argBest (fun i j => dataLt ([da, db].getD j .none) ([da, db].getD i .none)) 1 = if dataLt da db = true then 1 else 0 := rfl
    have hP' : (#[a, b] : Array Value)[argBest (fun i j => dataLt ([da, db].getD j .none) ([da, db].getD i .none)) 1]? = some v := hP
    rw [e1] at hP'
    cases hl : dataLt da db with
    | true => rw [hl] at hP'; simpa using hP'.symm
    | false => rw [hl] at hP'; simpa using hP'.symm
  rw [e2]
  exact h h' tk fun c o ec => hk' c o (kp c o ec)
end
end PySem.W

/-! FDc: calls framed, two resources at once, own operators, makers, star defs. -/
namespace FD
open PySem PySem.Spec PyProof.Rows L2
section
variable {K : PySem.W.Frag} {m : Md} {Γ Γ' Γ1 Γ2 pre post : List Sl} {te ta : TE} {z : D} {I H I' H' : Hp} {L L' : List Addr} {i j : Nat} {v u : V} {R R' S S' Rn : Res} {C : Addr} {sp : Sp} {E : XK}
theorem EnvOk.split {Γ : List Sl} {σ : Sg} : ∀ {pre : List Sl} {vs : Sg} {L : List Addr}, pre.length = vs.length → EnvOk K I H (pre ++ Γ) (vs ++ σ) L → ∃ L1 L2, L = L1 ++ L2 ∧ EnvOk K I H pre vs L1 ∧ EnvOk K I H Γ σ L2 := by
  intro pre
  induction pre with
  | nil =>
    intro vs L h e
    cases vs with
    | nil => exact ⟨[], L, rfl, .nil, e⟩
    | cons _ _ => simp at h
  | cons p pre ih =>
    intro vs L h e
    cases vs with
    | nil => simp at h
    | cons x vs =>
      have hl : pre.length = vs.length := by simpa using h
      have e' : EnvOk K I H (p :: (pre ++ Γ)) (x :: (vs ++ σ)) L := e
      cases e' with
      | em x e => obtain ⟨L1, L2, e1, e2, e3⟩ := ih hl e; exact ⟨L1, L2, e1, .em x e2, e3⟩
      | dat q e => obtain ⟨L1, L2, e1, e2, e3⟩ := ih hl e; exact ⟨L1, L2, e1, .dat q e2, e3⟩
      | res q g => obtain ⟨L1, L2, e1, e2, e3⟩ := ih hl g; exact ⟨_ ++ L1, L2, by rw [e1, List.append_assoc], .res q e2, e3⟩
theorem EnvOk.join : ∀ {pre Γ : List Sl} {vs σ : Sg} {L1 L2 : List Addr}, EnvOk K I H pre vs L1 → EnvOk K I H Γ σ L2 → EnvOk K I H (pre ++ Γ) (vs ++ σ) (L1 ++ L2)
  | _, _, _, _, _, _, .nil, g => g
  | _, _, _, _, _, _, .em x e, g => .em x (e.join g)
  | _, _, _, _, _, _, .dat p e, g => .dat p (e.join g)
  | _, _, _, _, _, _, .res p e, g => by rw [List.append_assoc]; exact .res p (e.join g)
/-- what stands beside a part that steps -/
theorem Wd.beside {vs vs' σ : Sg} {pre' : List Sl} {L1 L2 L1' : List Addr} (w : Wd K (pre ++ Γ) (vs ++ σ) I H (L1 ++ L2)) (e1 : EnvOk K I H pre vs L1) (e2 : EnvOk K I H Γ σ L2) (w' : Wd K pre' vs' I' H' L1') (s : Step I H L1 I' H' L1') :
    Wd K (pre' ++ Γ) (vs' ++ σ) I' H' (L1' ++ L2) ∧ Step I H (L1 ++ L2) I' H' (L1' ++ L2) := by
  have nd := List.nodup_append.mp w.nd
  have lv : ∀ a ∈ L2, H a ≠ none := e2.live
  have out : ∀ a ∈ L2, a ∉ L1 := fun a h q => nd.2.2 a q a h rfl
  have kp : ∀ a ∈ L2, H' a = H a := fun a h => by
    cases e : H a with
    | none => exact absurd e (lv a h)
    | some o => exact s.keep a o e (out a h)
  have ap : ∀ a ∈ L1', a ∉ L2 := fun a h q => (s.l a h).elim (out a q) (lv a q)
  refine ⟨⟨w'.env.join (e2.keep s.i kp), List.nodup_append.mpr ⟨w'.nd, nd.2.1, fun a h b hb e => ap a h (e ▸ hb)⟩, fun a h => ?_, w'.sub⟩, ⟨s.i, fun a o e h => s.keep a o e fun q => h (by simp [q]), fun a h => ?_, fun a o e => ?_⟩⟩
  · rcases List.mem_append.mp h with h | h
    · exact w'.fr a h
    · cases e : I' a with
      | none => rfl
      | some o =>
        rcases s.n a o e with q | q | q
        · rw [w.fr a (by simp [h])] at q; cases q
        · exact absurd q (out a h)
        · exact absurd q (lv a h)
  · rcases List.mem_append.mp h with h | h
    · rcases s.l a h with q | q
      · exact .inl (by simp [q])
      · exact .inr q
    · exact .inl (by simp [h])
  · rcases s.n a o e with q | q | q
    · exact .inl q
    · exact .inr (.inl (by simp [q]))
    · exact .inr (.inr q)
theorem Con.frame {vs : List V} {σ : Sg} (hs : Con K sp pre z post) (hl : pre.length = vs.length) (w : Wd K (pre ++ Γ) (vs.map some ++ σ) I H L) (Q : VK) (q : ∀ u I2 H2 L2, Wd K (post ++ Γ) (vs.map some ++ σ) I2 H2 L2 → Step I H L I2 H2 L2 → Is K I2 u z → Q u H2) : sp vs H Q E := by
  obtain ⟨L1, L2, rfl, e1, e2⟩ := EnvOk.split (by simpa using hl) w.env
  have nd := List.nodup_append.mp w.nd
  refine hs vs I H L1 ⟨e1, nd.1, fun a h => w.fr a (by simp [h]), w.sub⟩ Q E fun x I2 H2 L3 w2 s2 hx => ?_
  obtain ⟨w3, s3⟩ := w.beside e1 e2 w2 s2
  exact q x I2 H2 _ w3 s3 hx
theorem ConR.frame {vs : List V} {σ : Sg} (hs : ConR K sp pre Rn post) (hl : pre.length = vs.length) (w : Wd K (pre ++ Γ) (vs.map some ++ σ) I H L) (Q : VK) (q : ∀ u I2 H2 L2, Wd K (.res u Rn :: post ++ Γ) (some u :: vs.map some ++ σ) I2 H2 L2 → Step I H L I2 H2 L2 → Q u H2) : sp vs H Q E := by
  obtain ⟨L1, L2, rfl, e1, e2⟩ := EnvOk.split (by simpa using hl) w.env
  have nd := List.nodup_append.mp w.nd
  refine hs vs I H L1 ⟨e1, nd.1, fun a h => w.fr a (by simp [h]), w.sub⟩ Q E fun x I2 H2 L3 w2 s2 => ?_
  obtain ⟨w3, s3⟩ := w.beside e1 e2 w2 s2
  exact q x I2 H2 _ w3 s3
/-! two slots ahead -/
theorem Wd.take2 {σ : Sg} (w : Wd K Γ σ I H L) (hi : Γ[i]? = some (.res v R)) (hj : Γ[j]? = some (.res u S)) (ij : i ≠ j) : σ[i]? = some (some v) ∧ σ[j]? = some (some u) ∧ ∃ L', Wd K (.res v R :: .res u S :: (Γ.set j .em).set i .em) (some v :: some u :: σ) I H L' ∧ Step I H L I H L' := by
  obtain ⟨h1, L1, w1, s1⟩ := w.takeR hj
  obtain ⟨h2, L2, w2, s2⟩ := w1.takeR (k := i + 1) (v := v) (R := R) (by simp [List.getElem?_set, Ne.symm ij, hi])
  exact ⟨by simpa using h2, h1, L2, by simpa using w2, s1.trans s2⟩
theorem set_self {α : Type} : ∀ {l : List α} {i : Nat} {x : α}, l[i]? = some x → l.set i x = l
  | [], _, _, h => by simp at h
  | _ :: _, 0, _, h => by simp at h; simp [h]
  | _ :: _, i + 1, _, h => by simp at h; simp [set_self h]
theorem Wd.back2 {σ : Sg} (w : Wd K (.res v R' :: .res u S' :: (Γ.set j .em).set i .em) (some v :: some u :: σ) I H L) (hi : i < Γ.length) (hj : j < Γ.length) (ij : i ≠ j) (h1 : σ[i]? = some (some v)) (h2 : σ[j]? = some (some u)) :
    ∃ L', Wd K ((Γ.set i (.res v R')).set j (.res u S')) σ I H L' ∧ Step I H L I H L' := by
  obtain ⟨L1, w1, s1⟩ := Wd.setR (i := i + 1) w (by simp; exact hi)
  obtain ⟨L2, w2, s2⟩ := Wd.setR (i := j) (Γ := ((Γ.set j .em).set i .em).set i (.res v R')) (σ := σ.set i (some v)) (by simpa using w1) (by simpa using hj)
  refine ⟨L2, ?_, s1.trans s2⟩
  rw [set_self h1, set_self h2, List.set_set, List.set_comm _ _ (Ne.symm ij), List.set_set] at w2
  exact w2
end
/-! ### own operators -/
/-- x op y, both instances of the class at C with its own def for op -/
def rOwnC (C : Addr) (sp : Sp) (E : XK) : R2 := fun x y H Q => ∃ a b dx dy fs gs, x = .ref a ∧ y = .ref b ∧ H a = some (.ins C dx fs) ∧ H b = some (.ins C dy gs) ∧ sp [x, y] H Q E
/-- y a list -/
def rOwnL (K : PySem.W.Frag) (C : Addr) (sp : Sp) (E : XK) : R2 := fun x y H Q => ∃ a b dx fs ys, x = .ref a ∧ y = .ref b ∧ H a = some (.ins C dx fs) ∧ SqL K H b ys ∧ sp [x, y] H Q E
section
variable {X : Cx} {CX : CXT} {n : Nat} {C g : Addr} {sp : Sp} {E : XK}
theorem op_ownCmp {op : CmpOp} (hop : ∀ a b, compareOp op a b = richCompare op a b) (hs : PySem.W.findIn X.K (.ref C) (cmpInfo op).2.1 = some (some (.ref g))) (hf : PySem.W.isFn X.K (.ref g) = true) (F : FnR X.prog X.w X.K X.mg X.base CX n g sp)
    (hr : Room n X.A) (hx : Passes CX X E) : OpR X (compareOp op) (rOwnC C sp E) := by
  intro pins s σ H x y v u Q I rx ry h
  obtain ⟨a, b, dx, dy, fs, gs, rfl, rfl, ha, hb, q⟩ := h
  cases (show v = Value.ref a from rx)
  cases (show u = Value.ref b from ry)
  obtain ⟨mA, J, _⟩ := ins_get I.hok ha
  obtain ⟨mB, J', _⟩ := ins_get I.hok hb
  obtain ⟨od, J, _⟩ := J.look
  obtain ⟨od', J', _⟩ := J'.look
  obtain ⟨m, hF⟩ := I.fr
  rw [hop]
  refine PySem.W.cmp_K (op := op) (tb := .ref C) hr.units0 hF I.ok.mod.kin J J'.type (by simp [PySem.W.notFirst]) hs hf ?_
  refine wpAny_mono (wpAny_call (run_fnR (us := [.ref a, .ref b]) (vs := [.ref a, .ref b]) F hr hx I (.cons rfl (.cons rfl .nil)) q)) (fun w s' z => ?_) fun _ _ x => x
  obtain ⟨z', H', I', rz, qz⟩ := z
  exact SlX.cmpback rz ⟨z', H', I', rz, qz⟩
theorem op_ownBin {op : Operator} (hc : PySem.W.selfFirst X.K C = true) (hs : PySem.W.findIn X.K (.ref C) (PySem.dunder op.info.2) = some (some (.ref g))) (hf : PySem.W.isFn X.K (.ref g) = true) (F : FnR X.prog X.w X.K X.mg X.base CX n g sp)
    (hr : Room n X.A) (hx : Passes CX X E) : OpR X (binaryOp op) (rOwnC C sp E) := by
  intro pins s σ H x y v u Q I rx ry h
  obtain ⟨a, b, dx, dy, fs, gs, rfl, rfl, ha, hb, q⟩ := h
  cases (show v = Value.ref a from rx)
  cases (show u = Value.ref b from ry)
  obtain ⟨mA, J, _⟩ := ins_get I.hok ha
  obtain ⟨mB, J', _⟩ := ins_get I.hok hb
  obtain ⟨od, J, _⟩ := J.look
  obtain ⟨od', J', _⟩ := J'.look
  obtain ⟨m, hF⟩ := I.fr
  refine PySem.W.binop_K (op := op) hF I.ok.mod.kin J J'.type hc hs hf ?_
  refine wpAny_mono (wpAny_call (run_fnR (us := [.ref a, .ref b]) (vs := [.ref a, .ref b]) F hr hx I (.cons rfl (.cons rfl .nil)) q)) (fun w s' z => ?_) fun _ _ x => x
  obtain ⟨z', H', I', rz, qz⟩ := z
  exact SlX.cmpback rz ⟨z', H', I', rz, qz⟩
theorem looks_list {M : Model} {h : Heap} {a : Addr} {o : Obj} (ho : h.get? a = some o) (hc : o.cls = .type "list") : PySem.W.Looks M h (typeOf (.ref a)) (.type "list") := by
  intro A Q E s hk q
  exact PySem.wpAny_typeOf_ref (hk _ _ ho) (by rw [hc]; exact q)
theorem notFirst_list {K : PySem.W.Frag} : PySem.W.notFirst K C (.type "list") = true := by
  have : PySem.W.subIn K (.type "list") (.ref C) = some false := rfl
  simp [PySem.W.notFirst, this]
theorem op_ownCmpL {op : CmpOp} (hop : ∀ a b, compareOp op a b = richCompare op a b) (hs : PySem.W.findIn X.K (.ref C) (cmpInfo op).2.1 = some (some (.ref g))) (hf : PySem.W.isFn X.K (.ref g) = true) (F : FnR X.prog X.w X.K X.mg X.base CX n g sp)
    (hr : Room n X.A) (hx : Passes CX X E) : OpR X (compareOp op) (rOwnL X.K C sp E) := by
  intro pins s σ H x y v u Q I rx ry h
  obtain ⟨a, b, dx, fs, ys, rfl, rfl, ha, hb, q⟩ := h
  cases (show v = Value.ref a from rx)
  cases (show u = Value.ref b from ry)
  obtain ⟨mA, J, _⟩ := ins_get I.hok ha
  obtain ⟨od, J, _⟩ := J.look
  obtain ⟨its, _, pl, _⟩ := I.list hb
  obtain ⟨o, ho, hc, _⟩ := pl.isList
  obtain ⟨m, hF⟩ := I.fr
  rw [hop]
  refine PySem.W.cmp_K (op := op) (tb := .type "list") hr.units0 hF I.ok.mod.kin J (looks_list ho hc) notFirst_list hs hf ?_
  refine wpAny_mono (wpAny_call (run_fnR (us := [.ref a, .ref b]) (vs := [.ref a, .ref b]) F hr hx I (.cons rfl (.cons rfl .nil)) q)) (fun w s' z => ?_) fun _ _ x => x
  obtain ⟨z', H', I', rz, qz⟩ := z
  exact SlX.cmpback rz ⟨z', H', I', rz, qz⟩
end
end FD

/-! FDd: two resources in operators, makers without and with a star, star defs, calls framed. -/
namespace FD
open PySem PySem.Spec PyProof.Rows L2
section
variable {P : Program} {w : PySem.World} {K : PySem.W.Frag} {mg : Str → Option Value} {base : Heap} {CX : CXT} {k : Nat} {f : Addr} {fd : FuncData} {ps : List Str} {sp : Sp}
theorem FnOk.raw0 (F : FnOk P w K mg base CX k f fd ps sp) (hb : Binds K fd ps []) : FnR P w K mg base CX k f sp := (L2.FnOk.raw F hb .nil).imp fun vs H Q E h => by
  rw [List.append_nil]
  exact h
end
section
variable {K : PySem.W.Frag} {m : Md} {Γ Γ' Γ1 Γ2 pre post : List Sl} {te tb : TE} {ta : TA} {z d : D} {I H I' H' : Hp} {L L' : List Addr} {i j : Nat} {v u : V} {R R' S S' Rn : Res} {C : Addr} {sp : Sp} {E : XK} {mm mm' : Str} {o : Out} {ds : List D}
theorem len_of_get {α : Type} {l : List α} {i : Nat} {x : α} (h : l[i]? = some x) : i < l.length := (List.getElem?_eq_some_iff.mp h).1
theorem ev_own2 (hi : Γ[i]? = some (.res v R)) (hj : Γ[j]? = some (.res u S)) (ij : i ≠ j) (ho : ObjAt K C mm R) (ho' : ObjAt K C mm' S) (hs : Con K sp [.res v R, .res u S] z [.res v R', .res u S']) : Ev K .e (tOp (rOwnC C sp E) (tVar i) (tVar j)) Γ z ((Γ.set i (.res v R')).set j (.res u S')) := fun σ I H L w Q q => by
  obtain ⟨h1, h2, L1, w1, s1⟩ := w.take2 hi hj ij
  obtain ⟨_, L0, hR, _⟩ := w.stepR hi
  obtain ⟨_, L0', hS, _⟩ := w.stepR hj
  obtain ⟨a, dx, fv, rfl, e1, _⟩ := ho _ _ _ _ hR
  obtain ⟨b, dy, gv, rfl, e2, _⟩ := ho' _ _ _ _ hS
  refine ⟨_, h1, _, h2, a, b, dx, dy, fv, gv, rfl, rfl, e1, e2, ?_⟩
  refine Con.frame (pre := [.res (.ref a) R, .res (.ref b) S]) (vs := [.ref a, .ref b]) (σ := σ) hs rfl w1 Q fun x I2 H2 L2 w2 s2 hx => ?_
  obtain ⟨L3, w3, s3⟩ := Wd.back2 (R' := R') (S' := S') w2 (len_of_get hi) (len_of_get hj) ij h1 h2
  exact q x I2 H2 L3 w3 (s1.trans (s2.trans s3)) hx
theorem er_own2 (hi : Γ[i]? = some (.res v R)) (hj : Γ[j]? = some (.res u S)) (ij : i ≠ j) (ho : ObjAt K C mm R) (ho' : ObjAt K C mm' S) (hs : ConR K sp [.res v R, .res u S] Rn [.res v R, .res u S]) : EvR K (tOp (rOwnC C sp E) (tVar i) (tVar j)) Γ Rn Γ := fun σ I H L w Q q => by
  obtain ⟨h1, h2, L1, w1, s1⟩ := w.take2 hi hj ij
  obtain ⟨_, L0, hR, _⟩ := w.stepR hi
  obtain ⟨_, L0', hS, _⟩ := w.stepR hj
  obtain ⟨a, dx, fv, rfl, e1, _⟩ := ho _ _ _ _ hR
  obtain ⟨b, dy, gv, rfl, e2, _⟩ := ho' _ _ _ _ hS
  refine ⟨_, h1, _, h2, a, b, dx, dy, fv, gv, rfl, rfl, e1, e2, ?_⟩
  refine ConR.frame (pre := [.res (.ref a) R, .res (.ref b) S]) (vs := [.ref a, .ref b]) (σ := σ) hs rfl w1 Q fun x I2 H2 L2 w2 s2 => ?_
  have e := w2.env
  cases e with
  | @res _ _ N1 N2 _ _ p e =>
    have nd := List.nodup_append.mp w2.nd
    have wr : Wd K (.res (.ref a) R :: .res (.ref b) S :: (Γ.set j .em).set i .em) (some (.ref a) :: some (.ref b) :: σ) I2 H2 N2 := ⟨e, nd.2.1, fun x h => w2.fr x (by simp [h]), w2.sub⟩
    obtain ⟨L3, w3, s3⟩ := Wd.back2 (R' := R) (S' := S) wr (len_of_get hi) (len_of_get hj) ij h1 h2
    have e3 : (Γ.set i (.res (.ref a) R)).set j (.res (.ref b) S) = Γ := by rw [set_self hi, set_self hj]
    rw [e3] at w3
    obtain ⟨w4, s4⟩ := Wd.beside (pre := .res (.ref a) R :: .res (.ref b) S :: (Γ.set j .em).set i .em) (Γ := [.res x Rn]) (vs := some (.ref a) :: some (.ref b) :: σ) (σ := [some x]) (L2 := N1) (w := ⟨by
        have q2 := EnvOk.join e (EnvOk.res (L2 := []) p .nil)
        rw [List.append_nil] at q2
        exact q2, (List.perm_append_comm.nodup_iff).mp w2.nd, fun y h => w2.fr y (by simp at h ⊢; exact h.symm), w2.sub⟩) e (by
        have q2 := EnvOk.res (L2 := []) p (.nil : EnvOk K I2 H2 [] [] [])
        rw [List.append_nil] at q2
        exact q2) w3 s3
    have apart : ∀ y ∈ N1, y ∉ L3 := fun y h g => (List.nodup_append.mp w4.nd).2.2 y g y h rfl
    have p4 : Rn.P I2 x H2 N1 := p
    refine q x I2 H2 (N1 ++ L3) ⟨.res p4 w3.env, List.nodup_append.mpr ⟨nd.1, w3.nd, fun y h b hb e => apart y h (e ▸ hb)⟩, fun y h => w4.fr y (by simp at h ⊢; exact h.symm), w2.sub⟩ (s1.trans (s2.trans ⟨s4.i, fun y o h g => h, fun y h => ?_, fun y o h => .inl h⟩))
    rcases List.mem_append.mp h with h | h
    · exact .inl (by simp [h])
    · rcases s3.l y h with g | g
      · exact .inl (by simp [g])
      · exact .inr g
/-- x == a list -/
theorem ev_ownL (hi : Γ[i]? = some (.res v R)) (ho : ObjAt K C mm R) (hb : Ev K .p tb Γ (.lst ds) Γ) (hs : Con K sp [.res v R, .dat (.lst ds)] z [.res v R', .dat (.lst ds)]) : Ev K .e (tOp (rOwnL K C sp E) (tVar i) tb) Γ z (Γ.set i (.res v R')) := fun σ I H L w Q q => by
  obtain ⟨h1, _⟩ := w.stepR hi
  refine ⟨_, h1, hb σ I H L w _ fun y I1 H1 L1 w1 g1 hy => ?_⟩
  obtain ⟨_, L0, hR, _⟩ := w1.stepR hi
  obtain ⟨a, dx, fv, rfl, e1, _⟩ := ho _ _ _ _ hR
  have hy' := hy
  cases hy with
  | lst q1 q2 =>
    rename_i b ys
    refine ⟨a, b, dx, fv, ys, rfl, rfl, e1, w1.sub.l q1, ?_⟩
    refine call_place (ds := [.lst ds]) (vs := [.ref b]) w1 (plc_slot hi) (.cons hy' .nil) hs Q fun x I2 H2 L2 w2 s2 hx => ?_
    exact q x I2 H2 L2 w2 (g1.step.trans s2) hx
/-! makers -/
def tMakeS (K : PySem.W.Frag) (C : Addr) (sp : Sp) (E : XK) (te : TE) : TE := fun σ H Q => te σ H fun y H1 => ∃ a xs, y = V.ref a ∧ (SqT K H1 a xs ∨ SqL K H1 a xs) ∧ ∀ x dx, H1 x = none → H1 dx = none → dx ≠ x →
  sp (.ref x :: xs) (upd (upd H1 dx (.own x)) x (.ins C dx [])) (fun v H2 => v = .non ∧ Q (.ref x) H2) E
theorem er_makeS (h : Ev K m te Γ x Γ') (hx : x = .lst ds ∨ x = .tup ds) (hs : ∀ v, Con K sp (.res v (Robj K C [] []) :: ds.map .dat) .non (.res v R' :: ds.map .dat)) : EvR K (tMakeS K C sp E te) Γ R' Γ' := fun σ I H L w Q q =>
  h σ I H L w _ fun v I1 H1 L1 w1 g1 hv => by
    rcases hx with rfl | rfl
    · cases hv with
      | lst q1 q2 => exact ⟨_, _, rfl, .inr (w1.sub.l q1), fun p dx hp hd hne => make_new w1 hp hd hne q2 hs fun I2 H2 L2 w2 s2 => q _ I2 H2 L2 w2 (g1.step.trans s2)⟩
    · cases hv with
      | tup q1 q2 => exact ⟨_, _, rfl, .inl (w1.sub.t q1), fun p dx hp hd hne => make_new w1 hp hd hne q2 hs fun I2 H2 L2 w2 s2 => q _ I2 H2 L2 w2 (g1.step.trans s2)⟩
/-! defs with a star -/
def spStar (n : Nat) (sp : Sp) : Sp := fun vs H Q E => ∃ ws rest, vs = ws ++ rest ∧ ws.length = n ∧ rest.length ≤ sizeLine ∧ ∀ p, H p = none → sp (ws ++ [V.ref p]) (upd H p (.tup rest)) Q E
theorem con_star (hs : ∀ v, Con K sp [.res v R, .dat (.tup ds)] z [.res v R', .dat (.tup ds)]) (hz : ds.length ≤ sizeLine) : ∀ v, Con K (spStar 1 sp) (.res v R :: ds.map .dat) z (.res v R' :: ds.map .dat) := fun v vs I H L w Q E q => by
  cases vs with
  | nil =>
    have := w.env.len
    simp at this
  | cons x us =>
    have e0 : EnvOk K I H (.res v R :: ds.map .dat) (some x :: us.map some) L := w.env
    cases e0 with
    | @res _ _ L1 L2 _ _ hR e =>
      have hA : ∀ {ds : List D} {us : List V} {L : List Addr}, EnvOk K I H (ds.map .dat) (us.map some) L → IsA K I us ds := by
        intro ds
        induction ds with
        | nil =>
          intro us L h
          cases us with
          | nil => exact .nil
          | cons _ _ => cases h
        | cons d ds ih =>
          intro us L h
          cases us with
          | nil => cases h
          | cons y us => cases h with | dat p e => exact .cons p (ih e)
      have ha := hA e
      have hL := allDat e
      subst hL
      refine ⟨[v], us, rfl, rfl, by rw [ha.length]; exact hz, fun p hp => ?_⟩
      obtain ⟨n, ex⟩ := alloc (o := .tup us) w.sub hp
      have w1 : Wd K [.res v R, .dat (.tup ds)] [some v, some (.ref p)] (upd I p (.tup us)) (upd H p (.tup us)) (L1 ++ []) := by
        have w0 : Wd K [.res v R] [some v] I H (L1 ++ []) := ⟨.res hR .nil, by simpa using w.nd, fun a h => w.fr a (by simpa using h), w.sub⟩
        have w0' := w0.new n ex
        refine ⟨?_, w0'.nd, w0'.fr, ex⟩
        have e1 := w0'.env
        have e2 := env_snocD (v := .ref p) (d := .tup ds) e1 (.tup (st_of upd_same) (ha.mono n.i))
        exact e2
      refine hs v [v, .ref p] _ _ _ w1 Q E fun y I2 H2 L2 w2 s2 hy => ?_
      have e2 : EnvOk K I2 H2 [.res v R', .dat (.tup ds)] [some v, some (.ref p)] L2 := w2.env
      cases e2 with
      | @res _ _ M1 M2 _ _ hR2 e3 =>
        have hM := allDat (ds := [.tup ds]) e3
        subst hM
        exact q y I2 H2 (M1 ++ []) ⟨.res hR2 (env_dats ((ha.mono n.i).mono s2.i)), w2.nd, w2.fr, w2.sub⟩ ((n.step _).trans s2) hy
end
section
variable {P : Program} {w : PySem.World} {K : PySem.W.Frag} {mg : Str → Option Value} {base : Heap}
theorem okStarC {x qual : Str} {st : Stmt} {f : Addr} {fd : FuncData} {N ps : List Str} {pv : Str} {k : Nat} {C : Pr → Prop} (F : Fun K x qual st f fd) (S : FnScope N (ps ++ [pv]) (defScope st))
    (hb : ∀ (kV doc pm : Value) (an : Option Addr) (cdv ct : Value) (us rest : List Value), us.length = ps.length → bindArgs (PySem.W.fnOf x qual (defArgs st) (defBody st) (defScope st) .none kV doc pm an cdv ct) ⟨us ++ rest, []⟩ = (newTuple rest >>= fun t => pure (ps.zip us ++ [(pv, t)])))
    (hbody : ∀ (cdv : Value) (A : Around) (outer : List Env) (s : Shared) (H : Hp) (vs : List V) (Q : VK) (E : XK), Room k (A.deeper (envOfC qual (defScope st) s.heap.objs.size f cdv)) →
      ∃ t, PSs (cxOf CX0 P w K mg base N qual (defScope st) f cdv A outer s H E).nox (defBody st) t ∧ ∀ c, C c → Body K t N.length c) : FnR P w K mg base CX0 (k + 1) f (spStar ps.length (spC K C)) := by
  obtain ⟨oc, od, kV, doc, pm, an, cdv, ct, osl, rfl, lk, hcd⟩ := F.ex
  refine StX.fn_star lk hcd S (StX.cxUp_none) (hb kV doc pm an cdv ct) fun A outer s H vs Q E hr h => ?_
  obtain ⟨t, ht, hb⟩ := hbody cdv A outer s H vs Q E hr
  exact ⟨t, ht.nox, body_ok hb h⟩
end
section
variable {X : Cx} {CX : CXT} {k i : Nat} {f C : Addr} {sp : Sp} {E : XK} {x : Str} {e : Expr} {es : List Expr} {te : TE} {t : TA} {p pos sp_ : Pos}
theorem pe_makeR0 (M : Mk X.K C f) (F : FnR X.prog X.w X.K X.mg X.base CX k f sp) (hr : Room (k + 1) X.A) (hg : Gl X x) (hm : X.mg x = some (.ref C)) (hx : Passes CX X E) (hdb : (x == ("__debug__" : Str)) = false := by decide) : PE X (.Call (.Name x p) [] [] pos) (StX.tMakeR C sp E tNil) := by
  refine ⟨fun pins s σ H Q I h => ?_⟩
  refine wpAny_Call_Name_kw (ld_glob I hg hm ?_ hdb)
  exact PySem.W.callWith_K0 I.kIn M.kp (StX.run_makeR (us := []) (vs := []) M F hr hx I .nil h)
theorem pe_makeS (M : Mk X.K C f) (F : FnR X.prog X.w X.K X.mg X.base CX k f sp) (hr : Room (k + 1) X.A) (hg : Gl X x) (hm : X.mg x = some (.ref C)) (hx : Passes CX X E) (he : PE X e te) (hd : (x == ("__debug__" : Str)) = false := by decide)
    (hst : starEach [.Starred e sp_] X.env = [(true, eval e X.env)] := by rfl) : PE X (.Call (.Name x p) [.Starred e sp_] [] pos) (tMakeS X.K C sp E te) := by
  refine ⟨fun pins s σ H Q I h => ?_⟩
  refine wpAny_Call_Name_kw (ld_glob I hg hm ?_ hd)
  refine PySem.W.callWith_S (h₀ := X.base) I.ok.mod.kin M.kp (thn (he.run pins s σ H _ I h) fun v s1 ⟨y, H1, I1, ry, a, xs, ey, hxs, q⟩ => ?_) hst
  subst ey
  obtain rfl : v = Value.ref a := ry
  exact StX.star_any I1 hxs fun us s2 I2 rv => ⟨I2.kIn, StX.run_makeR M F hr hx I2 rv q⟩
end
end FD

/-! FDe: max of data, == of dict fields, list and sorted of dicts. -/
namespace FD
open PySem PySem.Spec PyProof.Rows L2
def Cmp2 (d e : PyData) : Prop := PySem.W.AlikeAll [d, e] ∧ PyData.depthAll [d, e] ≤ 60
def rMax2D (K : PySem.W.Frag) : List V → Hp → VK → Prop := fun xs H Q => ∃ x y d e, xs = [x, y] ∧ Dp K H x d ∧ Dp K H y e ∧ Cmp2 d e ∧ Q (if PySem.W.dataLt d e then y else x) H
section
variable {X : Cx}
theorem call_max2D (hc : X.calm = true) (hu : X.A.units + 64 < cLine) : CallR X (.builtin "max") (rMax2D X.K) := by
  intro pins s σ H xs us Q I r h
  obtain ⟨x, y, d, e, rfl, hd, he, hc2, q⟩ := h
  obtain ⟨u, v, rfl, r1, r2⟩ := vals2 r
  obtain ⟨as, p1⟩ := Dp.reads I d x u hd r1
  obtain ⟨bs, p2⟩ := Dp.reads I e y v he r2
  refine PySem.W.fd_max2 (I.ok.hd hc) p1 p2 hc2.1 (by have := hc2.2; omega) fun h' tk k => ⟨_, H, I.kept k, ?_, q⟩
  cases PySem.W.dataLt d e with
  | true => exact r2
  | false => exact r1
end
section
variable {K : PySem.W.Frag} {m : Md} {Γ Γ' Γ1 Γ2 : List Sl} {te ta tb : TE} {x y z d : D} {I H I' H' : Hp} {L L' : List Addr} {i j : Nat} {v u : V} {es fs : List (Key × D)} {up up' : Res → List Sl} {ng : Bool}
theorem cd_max2D (hx : x.pure = true) (hy : y.pure = true) (h : Cmp2 x.py y.py) : CallD K (rMax2D K) [x, y] (if PySem.W.dataLt x.py y.py then y else x) := fun I H vs s hv => by
  cases hv with
  | cons h1 h2 =>
    cases h2 with
    | cons h2 h3 =>
      cases h3
      refine pureR_here s (v := if PySem.W.dataLt x.py y.py then _ else _) ?_ fun Q q => ⟨_, _, _, _, rfl, Is.dp s hx h1, Is.dp s hy h2, h, q⟩
      cases PySem.W.dataLt x.py y.py with
      | true => exact h2
      | false => exact h1
theorem ev_eqDicP (hr : RefE K ta Γ v) (hp : Plc K Γ v (Rdic K es) up) (hr' : RefE K tb Γ u) (hp' : Plc K Γ u (Rdic K fs) up') (h1 : shapedV es) (h2 : shapedV fs) : Ev K m (tOp (rEqDic K ng) ta tb) Γ (.bl (eqDic es fs ^^ ng)) Γ := fun σ I H L w Q q =>
  hr σ I H L w _ (hr' σ I H L w _ (by
    obtain ⟨L1, p1, _⟩ := hp σ I H L w
    obtain ⟨L2, p2, _⟩ := hp' σ I H L w
    obtain ⟨a, kvs, rfl, rfl, ha, ka⟩ := p1
    obtain ⟨b, kws, rfl, rfl, hb, kb⟩ := p2
    exact ⟨a, b, kvs, kws, es, fs, rfl, rfl, .inl ha, .inl hb, ka.mono w.sub, kb.mono w.sub, h1, h2, q _ I H L w Guar.refl (.bl _)⟩))
def kD : Key → D
  | .inl n => .int n
  | .inr s => .str s
theorem is_kV (I : Hp) (k : Key) : Is K I (kV k) (kD k) := by
  cases k with
  | inl n => exact .int n
  | inr s => exact .str s
theorem isA_keys {kvs : List (Key × V)} (h : IsK K I kvs es) : IsA K I (kvs.map fun kv => kV kv.1) (es.map fun e => kD e.1) := by
  induction h with
  | nil => exact .nil
  | cons h t ih => exact .cons (is_kV _ _) ih
theorem cd_listDic : CallD K (fun xs H Q => ∃ (a : Addr) (kvs : List (Key × V)), xs = [.ref a] ∧ Rd H a (.dK kvs) ∧ ∀ p, H p = none → Q (.ref p) (upd H p (.lst (kvs.map fun kv => kV kv.1)))) [D.dict es] (.lst (es.map fun e => kD e.1)) := fun I H vs s hv Q q => by
  cases hv with
  | cons h1 h2 =>
    cases h2
    obtain ⟨a, kvs, rfl, ra, ka⟩ := dict_is h1
    exact ⟨a, kvs, rfl, s.rd ra, fun p hp => let ⟨n, e⟩ := alloc (o := .lst _) s hp; q _ _ _ n e (.lst (sq_of upd_same) ((isA_keys ka).mono n.i))⟩
def isort (ns : List Int) : List Int := ns.mergeSort (fun a b => decide (a ≤ b))
theorem perm_sorted_eq : ∀ {xs ys : List Int}, xs.Perm ys → xs.Pairwise (· ≤ ·) → ys.Pairwise (· ≤ ·) → xs = ys
  | [], ys, p, _, _ => (List.Perm.nil_eq p)
  | x :: xs, [], p, _, _ => by have := p.length_eq; simp at this
  | x :: xs, y :: ys, p, h1, h2 => by
    have hx : x ∈ y :: ys := p.mem_iff.mp List.mem_cons_self
    have hy : y ∈ x :: xs := p.mem_iff.mpr List.mem_cons_self
    have e : x = y := by
      have a : y ≤ x := by
        rcases List.mem_cons.mp hx with h | h
        · omega
        · exact (List.pairwise_cons.mp h2).1 x h
      have b : x ≤ y := by
        rcases List.mem_cons.mp hy with h | h
        · omega
        · exact (List.pairwise_cons.mp h1).1 y h
      omega
    subst e
    rw [perm_sorted_eq (List.Perm.cons_inv p) (List.pairwise_cons.mp h1).2 (List.pairwise_cons.mp h2).2]
theorem isort_perm (ns : List Int) : (isort ns).Perm ns := List.mergeSort_perm ns _
theorem isort_sorted (ns : List Int) : (isort ns).Pairwise (· ≤ ·) := by
  have := List.pairwise_mergeSort (le := fun a b : Int => decide (a ≤ b)) (fun a b c h1 h2 => by simp at *; omega) (fun a b => by simp; omega) ns
  exact this.imp fun h => by simpa using h
theorem isort_uniq {ns ms : List Int} (h : ms.Perm ns) (hs : ms.Pairwise (· ≤ ·)) : ms = isort ns := perm_sorted_eq (h.trans (isort_perm ns).symm) hs (isort_sorted ns)
theorem isA_ints {vs : List V} {ns : List Int} : IsA K I vs (ns.map .int) ↔ vs = ns.map V.int := by
  induction ns generalizing vs with
  | nil =>
    constructor
    · intro h; cases h; rfl
    · rintro rfl; exact .nil
  | cons n ns ih =>
    constructor
    · intro h
      cases h with
      | cons h1 h2 => cases h1; rw [ih.mp h2]; rfl
    · rintro rfl
      exact .cons (.int n) (ih.mpr rfl)
theorem cd_sortedI {ns : List Int} : CallD K (rSortedI K) [.lst (ns.map .int)] (.lst ((isort ns).map .int)) := fun I H vs s hv Q q => by
  cases hv with
  | cons h1 h2 =>
    cases h2
    cases h1 with
    | lst q1 q2 =>
      have e := isA_ints.mp q2
      subst e
      refine ⟨_, ns, rfl, s.l q1, fun ms p h1 h2 hp => ?_⟩
      have e := isort_uniq h1 h2
      subst e
      obtain ⟨n, e⟩ := alloc (o := .lst _) s hp
      exact q _ _ _ n e (.lst (sq_of upd_same) (isA_ints.mpr rfl))
/-- sorted(d), the dict at a place, int keys -/
def rSortedDI : List V → Hp → VK → Prop := fun xs H Q => ∃ (a : Addr) (kvs : List (Key × V)) (ks : List Int), xs = [.ref a] ∧ Rd H a (.dK kvs) ∧ kvs.map (·.1) = ks.map Sum.inl ∧ ks.length < 64 ∧
    ∀ (ys : List Int) (p : Addr), ys.Perm ks → ys.Pairwise (· ≤ ·) → H p = none → Q (.ref p) (upd H p (.lst (ys.map V.int)))
theorem ev_sortedDP {ns : List Int} (hr : RefE K ta Γ v) (hp : Plc K Γ v (Rdic K es) up) (hk : es.map (·.1) = ns.map Sum.inl) (hl : ns.length < 64) : Ev K m (tCB rSortedDI (tCons ta tNil)) Γ (.lst ((isort ns).map .int)) Γ := fun σ I H L w Q q =>
  hr σ I H L w _ (by
    obtain ⟨L1, p1, _⟩ := hp σ I H L w
    obtain ⟨a, kvs, rfl, rfl, ha, ka⟩ := p1
    refine ⟨a, kvs, ns, rfl, .inl ha, by rw [ka.keys, hk], hl, fun ms p h1 h2 hp => ?_⟩
    have e := isort_uniq h1 h2
    subst e
    obtain ⟨n, e⟩ := alloc (o := .lst _) w.sub hp
    exact q _ _ _ L (w.new n e) (Guar.new n) (.lst (sq_of upd_same) (isA_ints.mpr rfl)))
/-! isinstance with own classes -/
structure IsiO (K : PySem.W.Frag) (C : Addr) : Prop where
  cl : Cls K C
  ca : PySem.W.findIn K (.ref C) "__class__" = some (some (.builtin "object.__class__"))
  cn : PySem.W.specialIn K (.builtin "object.__class__") "__get__" = some (some (.builtin "getset_descriptor.__get__"))
  ct : PySem.W.takesIn K (.builtin "object.__class__") = some true
  cm : PySem.W.mroIn K C (.type "object") = some true
  cb : ∀ T ∈ ["NoneType", "bool", "int", "str", "list", "tuple", "dict"], PySem.W.kitOne K (.type T) (.ref C) = some false
/-- isinstance(x, C), x the object in a slot -/
theorem ev_isiO {C : Addr} {R : Res} {mm : Str} {tc : TE} (o : IsiO K C) (hi : Γ[i]? = some (.res v R)) (ho : ObjAt K C mm R) (hc : Ev K .p tc Γ (.raw (.ref C)) Γ) : Ev K m (tCB (rIsi K) (tCons (tVar i) (tCons tc tNil))) Γ (.bl true) Γ := fun σ I H L w Q q => by
  obtain ⟨h1, _⟩ := w.stepR hi
  refine ⟨_, h1, hc σ I H L w _ fun c I1 H1 L1 w1 g1 hv => ?_⟩
  cases hv
  obtain ⟨_, L0, hR, _⟩ := w1.stepR hi
  obtain ⟨a, dx, fv, rfl, e1, _⟩ := ho _ _ _ _ hR
  exact ⟨_, _, .ref C, .ref C, true, rfl, .own C, .base (.ins e1 o.cl o.ca o.cn o.ct o.cm), by simp [PySem.W.kitOne], q _ I1 H1 L1 w1 (by
    obtain ⟨n, rfl⟩ := g1
    exact Guar.new n) (.bl _)⟩
theorem tyN_mem (t : x.typed = true) : x.tyN ∈ ["NoneType", "bool", "int", "str", "list", "tuple", "dict"] := by
  cases x <;> first | (simp [D.tyN]; done) | cases t
theorem cd_isiO {C : Addr} (o : IsiO K C) (t : x.typed = true) : CallD K (rIsi K) [x, .raw (.ref C)] (.bl false) := fun I H vs s hv => by
  cases hv with
  | cons h1 h2 =>
    cases h2 with
    | cons h2 h3 =>
      cases h3
      cases h2
      exact pureR_here s (.bl false) fun Q q => ⟨_, _, _, _, false, rfl, .own C, h1.tyx s t, o.cb _ (tyN_mem t), q⟩
end
end FD

/-! FDf: small facts about the data. -/
namespace FD
open PySem PySem.Spec PyProof.Rows L2
theorem cutD_to (ds : List D) (k : Nat) : cutD ds none (some (k : Int)) = ds.take k := by
  unfold cutD
  rw [HT.sIx_none, HT.sIx_nat]
  simp only [Nat.sub_zero, List.drop_zero]
  rcases Nat.le_total k ds.length with h | h
  · rw [Nat.min_eq_left h]
  · rw [Nat.min_eq_right h, List.take_length, List.take_of_length_le h]
theorem cutD_from (ds : List D) (k : Nat) : cutD ds (some (k : Int)) none = ds.drop k := by
  unfold cutD
  rw [HT.sIx_none, HT.sIx_nat]
  rcases Nat.le_total k ds.length with h | h
  · rw [Nat.min_eq_left h, List.take_of_length_le]
    rw [List.length_drop]
    exact Nat.le_refl _
  · rw [Nat.min_eq_right h, List.drop_length, List.drop_eq_nil_of_le h]
    simp
theorem enumD_map {α : Type} (l : List α) (f : α → D) : enumD (l.map f) = l.zipIdx.map fun p => .tup [.int (p.2 : Nat), f p.1] := by
  unfold enumD
  rw [List.zipIdx_map, List.map_map]
  rfl
theorem Ev.eq {K : PySem.W.Frag} {m : Md} {te : TE} {Γ Γ1 Γ2 : List Sl} {d d' : D} (h : Ev K m te Γ d Γ1) (e : d = d') (g : Γ1 = Γ2) : Ev K m te Γ d' Γ2 := e ▸ g ▸ h
theorem EvT.eq {K : PySem.W.Frag} {m : Md} {te : TT} {Γ Γ1 Γ2 : List Sl} {d d' : Bool} (h : EvT K m te Γ d Γ1) (e : d = d') (g : Γ1 = Γ2) : EvT K m te Γ d' Γ2 := e ▸ g ▸ h
theorem EvR.eq {K : PySem.W.Frag} {te : TE} {Γ Γ1 Γ2 : List Sl} {d d' : Res} (h : EvR K te Γ d Γ1) (e : d = d') (g : Γ1 = Γ2) : EvR K te Γ d' Γ2 := e ▸ g ▸ h
theorem atI_nat' {ds : List D} {i : Nat} {d : D} (h : ds[i]? = some d) : atI ds (i : Int) = some d := atI_nat h
end FD

/-! FDg: pairs of assignments; temporaries. -/
namespace FD
open PySem PySem.Spec PyProof.Rows L2
section
variable {K : PySem.W.Frag} {m : Md} {Γ Γ' Γ1 Γ2 pre post : List Sl} {te tb te1 te2 : TE} {ta : TA} {tu : TS} {z d d1 d2 : D} {I H I' H' : Hp} {L L' : List Addr} {i j : Nat} {v u : V} {R R' S S' Rn R1 R2 : Res} {C : Addr} {sp : Sp} {E : XK} {mm mm' : Str} {o : Out} {ds : List D}
theorem Wd.hold {σ : Sg} (w : Wd K (.res v R :: Γ1) (some v :: σ) I H L) : ∃ L1 L2, L = L1 ++ L2 ∧ Wd K Γ1 σ I H L2 ∧ ∀ {Γ2 : List Sl} {σ2 : Sg} {I' H' : Hp} {L2' : List Addr}, Wd K Γ2 σ2 I' H' L2' → Step I H L2 I' H' L2' →
    Wd K (.res v R :: Γ2) (some v :: σ2) I' H' (L1 ++ L2') ∧ Step I H (L1 ++ L2) I' H' (L1 ++ L2') := by
  have e := w.env
  cases e with
  | @res _ _ L1 L2 _ _ p e =>
    have nd := List.nodup_append.mp w.nd
    refine ⟨L1, L2, rfl, ⟨e, nd.2.1, fun a h => w.fr a (by simp [h]), w.sub⟩, fun {Γ2 σ2 I' H' L2'} w' s => ?_⟩
    have lv : ∀ a ∈ L1, H a ≠ none := fun a h => R.live p a h
    have out : ∀ a ∈ L1, a ∉ L2 := fun a h q => nd.2.2 a h a q rfl
    have kp : ∀ a ∈ L1, H' a = H a := fun a h => by
      cases e : H a with
      | none => exact absurd e (lv a h)
      | some o => exact s.keep a o e (out a h)
    have ap : ∀ a ∈ L1, a ∉ L2' := fun a h q => (s.l a q).elim (out a h) (lv a h)
    refine ⟨⟨.res (R.mono s.i (R.frame kp p)) w'.env, List.nodup_append.mpr ⟨nd.1, w'.nd, fun a h b hb e => ap a h (e ▸ hb)⟩, fun a h => ?_, w'.sub⟩, s.frame L1⟩
    rcases List.mem_append.mp h with h | h
    · cases e : I' a with
      | none => rfl
      | some o =>
        rcases s.n a o e with q | q | q
        · rw [w.fr a (by simp [h])] at q; cases q
        · exact absurd q (out a h)
        · exact absurd q (lv a h)
    · exact w'.fr a h
theorem run_parRR (h1 : EvR K te1 Γ R1 Γ1) (h2 : EvR K te2 Γ1 R2 Γ2) (hi : i < Γ2.length) (hj : j < Γ2.length) (ij : i ≠ j) (k : ∀ v u, Run K tu ((Γ2.set i (.res v R1)).set j (.res u R2)) o) : Run K (tSeq (tPar i j (tCons te1 (tCons te2 tNil))) tu) Γ o := fun σ I H L w Dn p =>
  h1 σ I H L w _ fun v I1 H1 L1 w1 s1 => by
    obtain ⟨M1, M2, rfl, wa, fr⟩ := w1.hold
    refine h2 σ I1 H1 M2 wa _ fun u I2 H2 L2 w2 s2 => ?_
    obtain ⟨N1, N2, rfl, wb, _⟩ := w2.hold
    have s2' : Step I1 H1 M2 I2 H2 (N1 ++ N2) := s2
    obtain ⟨w3, s3⟩ := fr w2 s2'
    obtain ⟨L4, w4, s4⟩ := Wd.setR (i := i + 1) w3 (by simp; exact hi)
    obtain ⟨L5, w5, s5⟩ := Wd.setR (i := j) (Γ := Γ2.set i (.res v R1)) (σ := σ.set i (some v)) (by simpa using w4) (by simpa using hj)
    exact ⟨v, u, rfl, k v u _ I2 H2 L5 w5 Dn (p.later (s1.trans (s3.trans (s4.trans s5))))⟩
theorem run_parDR (h1 : Ev K m te1 Γ d Γ1) (h2 : EvR K te2 Γ1 R2 Γ2) (hi : i < Γ2.length) (hj : j < Γ2.length) (ij : i ≠ j) (k : ∀ u, Run K tu ((Γ2.set i (.dat d)).set j (.res u R2)) o) : Run K (tSeq (tPar i j (tCons te1 (tCons te2 tNil))) tu) Γ o := fun σ I H L w Dn p =>
  h1 σ I H L w _ fun v I1 H1 L1 w1 g1 hv => h2 σ I1 H1 L1 w1 _ fun u I2 H2 L2 w2 s2 => by
    obtain ⟨L3, w3, s3⟩ := w2.setD (hv.mono s2.i) (i + 1)
    obtain ⟨L4, w4, s4⟩ := Wd.setR (i := j) (Γ := Γ2.set i (.dat d)) (σ := σ.set i (some v)) (by simpa using w3) (by simpa using hj)
    exact ⟨v, u, rfl, k u _ I2 H2 L4 w4 Dn (p.later (g1.step.trans (s2.trans (s3.trans s4))))⟩
theorem run_parDD {m' : Md} (h1 : Ev K m te1 Γ d1 Γ1) (h2 : Ev K m' te2 Γ1 d2 Γ2) : Run K (tPar i j (tCons te1 (tCons te2 tNil))) Γ (.nx ((Γ2.set i (.dat d1)).set j (.dat d2))) := fun σ I H L w Dn p =>
  h1 σ I H L w _ fun v I1 H1 L1 w1 g1 hv => h2 σ I1 H1 L1 w1 _ fun u I2 H2 L2 w2 g2 hu => by
    obtain ⟨L3, w3, s3⟩ := w2.setD (hv.mono g2.i) i
    obtain ⟨L4, w4, s4⟩ := w3.setD hu j
    exact ⟨v, u, rfl, p _ I2 H2 L4 w4 (g1.step.trans (g2.step.trans (s3.trans s4)))⟩
/-- e.append(x), the list a temporary -/
theorem run_appT (h1 : EvR K te1 Γ (Rlst K ds) Γ1) (h2 : Ev K m te2 Γ1 d Γ2) (hz : ds.length < sizeLine) : Run K (tDrop (tBM K "list" rAppend te1 (tCons te2 tNil))) Γ (.nx Γ2) := fun σ I H L w Dn p =>
  h1 σ I H L w _ fun v I1 H1 L1 w1 s1 => by
    obtain ⟨M1, M2, rfl, wa, fr⟩ := w1.hold
    obtain ⟨hσ, a, xs, rfl, ha, hx, _⟩ := w1.wr (k := 0) (ds' := []) rfl
    refine .inl ⟨rfl, _, sq_of ha⟩ |> fun z => ⟨z, h2 σ I1 H1 M2 wa _ fun u I2 H2 L2 w2 g2 hu => ?_⟩
    obtain ⟨w3, s3⟩ := fr w2 g2.step
    obtain ⟨_, a', xs', e, ha', hx', fin⟩ := w3.wr (k := 0) (ds' := ds ++ [d]) rfl
    cases e
    obtain ⟨L4, w4, s4⟩ := fin (xs' ++ [u]) (hx'.append (.cons hu .nil))
    obtain ⟨N1, N2, e4, wb, _⟩ := Wd.hold (by simpa using w4 : Wd K (.res (.ref a) (Rlst K (ds ++ [d])) :: Γ2) (some (.ref a) :: σ) I2 (upd H2 a (.lst (xs' ++ [u]))) L4)
    refine ⟨_, xs', u, rfl, rfl, ha', by rw [hx'.length]; exact hz, p σ I2 _ N2 wb (s1.trans (s3.trans (s4.trans ?_)))⟩
    subst e4
    exact ⟨Ex.refl _, fun _ _ h _ => h, fun a h => .inl (by simp [h]), fun _ _ h => .inl h⟩
/-- x == y, both temporaries -/
theorem ev_own2T (h1 : EvR K te1 Γ R Γ1) (h2 : EvR K te2 Γ1 S Γ2) (ho : ObjAt K C mm R) (ho' : ObjAt K C mm' S) (hs : ∀ v u, Con K sp [.res v R, .res u S] z [.res v R, .res u S]) : Ev K .e (tOp (rOwnC C sp E) te1 te2) Γ z Γ2 := fun σ I H L w Q q =>
  h1 σ I H L w _ fun v I1 H1 L1 w1 s1 => by
    obtain ⟨M1, M2, rfl, wa, fr⟩ := w1.hold
    refine h2 σ I1 H1 M2 wa _ fun u I2 H2 L2 w2 s2 => ?_
    obtain ⟨w3, s3⟩ := fr w2 s2
    have w4 : Wd K ([.res v R, .res u S] ++ Γ2) ([v, u].map some ++ σ) I2 H2 (M1 ++ L2) := w3
    obtain ⟨_, L0, hR, _⟩ := w3.stepR (i := 0) rfl
    obtain ⟨_, L0', hS, _⟩ := w3.stepR (i := 1) rfl
    obtain ⟨a, dx, fv, rfl, e1, _⟩ := ho _ _ _ _ hR
    obtain ⟨b, dy, gv, rfl, e2, _⟩ := ho' _ _ _ _ hS
    refine ⟨a, b, dx, dy, fv, gv, rfl, rfl, e1, e2, ?_⟩
    refine Con.frame (hs _ _) rfl w4 Q fun x I3 H3 L3 w5 s5 hx => ?_
    obtain ⟨N1, N2, e4, wb, _⟩ := Wd.hold w5
    obtain ⟨N3, N4, e5, wc, _⟩ := Wd.hold wb
    subst e4 e5
    exact q x I3 H3 N4 wc (s1.trans (s3.trans (s5.trans ⟨Ex.refl _, fun _ _ h _ => h, fun a h => .inl (by simp [h]), fun _ _ h => .inl h⟩))) hx
def rListOf (K : PySem.W.Frag) : List V → Hp → VK → Prop := fun xs H Q => ∃ p ys, xs = [.ref p] ∧ (SqL K H p ys ∨ SqT K H p ys) ∧ ∀ l, H l = none → Q (.ref l) (upd H l (.lst ys))
theorem er_listOf (h : Ev K m te Γ x Γ1) (hx : x = .lst ds ∨ x = .tup ds) : EvR K (tCB (rListOf K) (tCons te tNil)) Γ (Rlst K ds) Γ1 := fun σ I H L w Q q =>
  h σ I H L w _ fun v I1 H1 L1 w1 g1 hv => by
    have fin : ∀ xs, IsA K I1 xs ds → ∀ p, H1 p = none → Q (.ref p) (upd H1 p (.lst xs)) := fun xs hx p hp => by
      obtain ⟨w2, s2⟩ := w1.allocR (R := Rlst K ds) (o := .lst xs) hp ⟨p, xs, rfl, rfl, upd_same, hx⟩
      exact q (.ref p) I1 _ _ w2 (g1.step.trans s2)
    rcases hx with rfl | rfl
    · cases hv with
      | lst q1 q2 => exact ⟨_, _, rfl, .inl (w1.sub.l q1), fin _ q2⟩
    · cases hv with
      | tup q1 q2 => exact ⟨_, _, rfl, .inr (w1.sub.t q1), fin _ q2⟩
end
end FD

/-! FDh: truth of ints, join. -/
namespace FD
open PySem PySem.Spec PyProof.Rows L2
section
variable {X : Cx} {a : Expr} {ta : TE}
theorem op_addK {K : PySem.W.Frag} (hK : X.K = K := by rfl) : OpR X (binaryOp .Add) (rAddA K) := hK ▸ op_addA
theorem ix_seqK {K : PySem.W.Frag} (hK : X.K = K := by rfl) : IxR X (rIx K) := hK ▸ ix_seq
theorem call_lenK {K : PySem.W.Frag} (hK : X.K = K := by rfl) : CallR X (.builtin "len") (rLenA K) := hK ▸ call_lenA
theorem sl_anyK {K : PySem.W.Frag} (hK : X.K = K := by rfl) : SlR X (rSlAny K) := hK ▸ sl_any
theorem op_eqK {K : PySem.W.Frag} (hu : X.A.units + 64 < cLine) (hK : X.K = K := by rfl) : OpR X (compareOp .Eq) (rEqD K) := hK ▸ op_eqD hu
theorem op_neK {K : PySem.W.Frag} (hu : X.A.units + 64 < cLine) (hK : X.K = K := by rfl) : OpR X (compareOp .NotEq) (rNeD K) := hK ▸ op_neD hu
theorem pt_tru {K : PySem.W.Frag} (ha : PE X a ta) (hK : X.K = K := by rfl) (he : ∀ whole, isTrue a X.env whole = (do let v ← whole; standAt a.pos; holding [v] (truthy v)) := by intro _; rfl) : PT X a (tTru K ta) := hK ▸ pt_truth ha he
end
section
variable {K : PySem.W.Frag} {m : Md} {Γ Γ1 Γ2 : List Sl} {te to : TE} {i : Int} {a : Str} {ys : List Str} {d : D}
theorem evt_truInt (h : Ev K m te Γ (.int i) Γ1) : EvT K m (tTru K te) Γ (decide (i ≠ 0)) Γ1 := fun σ I H L w Q q => h σ I H L w _ fun v I1 H1 L1 w1 g1 hv => by
  cases hv
  exact ⟨decide (i ≠ 0), by show decide (i ≠ 0) = (i != 0); by_cases h : i = 0 <;> simp [h], q I1 H1 L1 w1 g1⟩
theorem it_rngN {ta : TA} {n : Nat} (h : EvA K m ta Γ [.int (n : Nat)] Γ1) (hn : n ≤ 1000000) : ItD K m (iRng1 ta) Γ (intsD 0 n) Γ1 := by
  have := it_rng1 (n := (n : Nat)) h (by omega)
  rw [Int.toNat_natCast] at this
  exact this
theorem run_asgG {g : TG} {js : List Nat} (h : Ev K m te Γ d Γ1) (hg : RunG K g js d Γ1 Γ2) : Run K (tAsg te g) Γ (.nx Γ2) := fun σ I H L w Dn p => h σ I H L w _ fun v I1 H1 L1 w1 g1 hv =>
  hg v σ I1 H1 L1 w1 hv _ fun σ' w' _ => p σ' I1 H1 L1 w' g1.step
theorem filter_true {α : Type} (l : List α) : l.filter (fun _ => true) = l := List.filter_eq_self.mpr fun _ _ => rfl
theorem evt_yes : EvT K m tYes Γ true Γ := fun σ I H L w Q q => q I H L w Guar.refl
theorem isA_strs {I : Hp} {vs : List V} : IsA K I vs (ys.map .str) ↔ vs = ys.map V.str := by
  induction ys generalizing vs with
  | nil =>
    constructor
    · intro h; cases h; rfl
    · rintro rfl; exact .nil
  | cons n ns ih =>
    constructor
    · intro h
      cases h with
      | cons h1 h2 => cases h1; rw [ih.mp h2]; rfl
    · rintro rfl
      exact .cons (.str n) (ih.mpr rfl)
def rJoin (K : PySem.W.Frag) : V → List V → Hp → VK → Prop := fun x xs H Q => ∃ a p, ∃ ys : List Str, x = .str a ∧ xs = [.ref p] ∧ (SqL K H p (ys.map V.str) ∨ SqT K H p (ys.map V.str)) ∧
      (ys.map (·.length)).sum + ys.length * a.length ≤ 16777216 ∧ Q (.str (Txt.join a ys)) H
theorem ev_join (h1 : Ev K m to Γ (.str a) Γ1) (h2 : Ev K m te Γ1 d Γ2) (hd : d = .lst (ys.map .str) ∨ d = .tup (ys.map .str)) (hz : (ys.map (·.length)).sum + ys.length * a.length ≤ 16777216) : Ev K m (tM1 (rJoin K) to te) Γ (.str (Str.join a ys)) Γ2 := fun σ I H L w Q q =>
  h1 σ I H L w _ fun v I1 H1 L1 w1 g1 hv => by
    cases hv
    refine ⟨⟨a, rfl⟩, h2 σ I1 H1 L1 w1 _ fun u I2 H2 L2 w2 g2 hu => ?_⟩
    have fin : Q (.str (Txt.join a ys)) H2 := by
      rw [TL.join_eq]
      exact q _ I2 H2 L2 w2 (g1.trans g2) (.str _)
    rcases hd with rfl | rfl
    · cases hu with
      | lst q1 q2 =>
        rw [isA_strs] at q2
        subst q2
        exact ⟨a, _, ys, rfl, rfl, .inl (w2.sub.l q1), hz, fin⟩
    · cases hu with
      | tup q1 q2 =>
        rw [isA_strs] at q2
        subst q2
        exact ⟨a, _, ys, rfl, rfl, .inr (w2.sub.t q1), hz, fin⟩
end
end FD

/-! FDi: resources told more weakly at an end; sorted of a dict as a new list. -/
namespace FD
open PySem PySem.Spec PyProof.Rows L2
theorem hu65 {A : Around} {k : Nat} (hr : Room k A) : A.units + 65 < cLine := by have := hr.un; omega
inductive WkR : List Sl → List Sl → Prop
  | nil : WkR [] []
  | keep {x : Sl} {Γ Γ' : List Sl} : WkR Γ Γ' → WkR (x :: Γ) (x :: Γ')
  | res {v : V} {R R' : Res} {Γ Γ' : List Sl} (h : ∀ I H L, R.P I v H L → R'.P I v H L) : WkR Γ Γ' → WkR (.res v R :: Γ) (.res v R' :: Γ')
theorem WkR.refl : ∀ Γ : List Sl, WkR Γ Γ
  | [] => .nil
  | _ :: Γ => .keep (WkR.refl Γ)
section
variable {K : PySem.W.Frag} {m : Md} {Γ Γ1 Γ2 : List Sl} {ts : TS} {te ta : TE} {d : D} {I H : Hp} {L : List Addr} {v w : V} {R : Res} {es : List (Key × D)} {up : Res → List Sl} {k : Nat} {F : V → Res}
theorem EnvOk.weakR : ∀ {Γ Γ' : List Sl} {σ : Sg} {L : List Addr}, WkR Γ Γ' → EnvOk K I H Γ σ L → EnvOk K I H Γ' σ L
  | _, _, _, _, .nil, .nil => .nil
  | _, _, _, _, .keep k, .em x e => .em x (e.weakR k)
  | _, _, _, _, .keep k, .dat p e => .dat p (e.weakR k)
  | _, _, _, _, .keep k, .res p e => .res p (e.weakR k)
  | _, _, _, _, .res h k, .res p e => .res (h _ _ _ p) (e.weakR k)
theorem Wd.weakR {σ : Sg} (k : WkR Γ Γ1) (w : Wd K Γ σ I H L) : Wd K Γ1 σ I H L := ⟨w.env.weakR k, w.nd, w.fr, w.sub⟩
theorem Run.rtW (h : Run K ts Γ (.rt d Γ1)) (k : WkR Γ1 Γ2) : Run K ts Γ (.rt d Γ2) := fun σ I H L w Dn p => h σ I H L w Dn fun v σ' I' H' L' w' s hv => p v σ' I' H' L' (w'.weakR k) s hv
theorem Run.nxW (h : Run K ts Γ (.nx Γ1)) (k : WkR Γ1 Γ2) : Run K ts Γ (.nx Γ2) := fun σ I H L w Dn p => h σ I H L w Dn fun σ' I' H' L' w' s => p σ' I' H' L' (w'.weakR k) s
theorem Run.rtRW (h : Run K ts Γ (.rtR R Γ1)) (k : WkR Γ1 Γ2) : Run K ts Γ (.rtR R Γ2) := fun σ I H L w Dn p => h σ I H L w Dn fun v σ' I' H' L' w' s => p v σ' I' H' L' (w'.weakR (.keep k)) s
theorem er_sortedDP {ns : List Int} (hr : RefE K ta Γ v) (hp : Plc K Γ v (Rdic K es) up) (hk : es.map (·.1) = ns.map Sum.inl) (hl : ns.length < 64) : EvR K (tCB rSortedDI (tCons ta tNil)) Γ (Rlst K ((isort ns).map .int)) Γ := fun σ I H L w Q q =>
  hr σ I H L w _ (by
    obtain ⟨L1, p1, _⟩ := hp σ I H L w
    obtain ⟨a, kvs, rfl, rfl, ha, ka⟩ := p1
    refine ⟨a, kvs, ns, rfl, .inl ha, by rw [ka.keys, hk], hl, fun ms p h1 h2 hp => ?_⟩
    have e := isort_uniq h1 h2
    subst e
    obtain ⟨w2, s2⟩ := w.allocR (R := Rlst K ((isort ns).map .int)) (o := .lst ((isort ns).map V.int)) hp ⟨p, _, rfl, rfl, upd_same, isA_ints.mpr rfl⟩
    exact q (.ref p) I _ _ w2 s2)
end
end FD

/-! FDj: sorted(d.items()) of a dict with int keys. -/
namespace PySem.W
open PySem PySem.Spec PyProof.Rows
mutual
theorem fd_live {h : Heap} : ∀ {v : Value} {d : PyData} {as : List Addr}, Reads h v d as → ∀ b ∈ as, ∃ o, h.get? b = some o
  | _, _, _, .none => fun b hb => by simp at hb
  | _, _, _, .bool b => fun b hb => by simp at hb
  | _, _, _, .int i t => fun b hb => by simp at hb
  | _, _, _, .str x t => fun b hb => by simp at hb
  | _, _, _, .list h1 h2 h3 h4 => fun b hb => by
    rcases List.mem_cons.mp hb with rfl | hb
    · exact ⟨_, h1⟩
    · exact fd_liveAll h4 b hb
  | _, _, _, .tuple h1 h2 h3 h4 => fun b hb => fd_liveAll h4 b hb
  | _, _, _, .dict h1 h2 h3 h4 h5 => fun b hb => by
    rcases List.mem_append.mp hb with hb | hb
    · rcases List.mem_cons.mp hb with rfl | hb
      · exact ⟨_, h1⟩
      · exact fd_liveAll h4 b hb
    · exact fd_liveAll h5 b hb
theorem fd_liveAll {h : Heap} : ∀ {vs : List Value} {ds : List PyData} {as : List Addr}, ReadsAll h vs ds as → ∀ b ∈ as, ∃ o, h.get? b = some o
  | _, _, _, .nil => fun b hb => by simp at hb
  | _, _, _, .cons h1 h2 => fun b hb => (List.mem_append.mp hb).elim (fd_live h1 b) (fd_liveAll h2 b)
end
end PySem.W
namespace FD
open PySem PySem.Spec PyProof.Rows L2
theorem paired_get {α β : Type} {R : α → β → Prop} : ∀ {xs : List α} {ys : List β}, Paired R xs ys → ∀ {j : Nat} {x : α}, xs[j]? = some x → ∃ y, ys[j]? = some y ∧ R x y
  | _, _, .nil, j, x, h => by simp at h
  | _, _, .cons a t, 0, x, h => by simp at h; subst h; exact ⟨_, rfl, a⟩
  | _, _, .cons a t, j + 1, x, h => by simpa using paired_get t (j := j) (by simpa using h)
theorem each_get {α β : Type} {R : α → β → Prop} {xs : List α} {ys : List β} (hl : xs.length = ys.length) (h : ∀ (j : Nat) (x : α) (y : β), xs[j]? = some x → ys[j]? = some y → R x y) : PySem.W.EachIs R xs ys := by
  induction xs generalizing ys with
  | nil =>
    cases ys with
    | nil => exact .nil
    | cons _ _ => simp at hl
  | cons x xs ih =>
    cases ys with
    | nil => simp at hl
    | cons y ys => exact .cons (h 0 x y rfl rfl) (ih (by simpa using hl) fun j a b p q => h (j + 1) a b (by simpa using p) (by simpa using q))
theorem each_map' {α β : Type} {f : β → α} : ∀ {xs : List α} {ys : List β}, PySem.W.EachIs (fun a b => a = f b) xs ys → xs = ys.map f
  | _, _, .nil => rfl
  | _, _, .cons e t => by rw [e, each_map' t]; rfl
def rItemsK : V → List V → Hp → VK → Prop := fun x xs H Q => ∃ (a : Addr) (kvs : List (Key × V)), x = .ref a ∧ xs = [] ∧ Rd H a (.dK kvs) ∧ ∀ p, H p = none → Q (.ref p) (upd H p (DX.itemsO p a))
section
variable {X : Cx}
theorem mt_itemsK : MtR X "dict.items" rItemsK := by
  intro pins s σ H x xs v us Q I rx rxs h
  obtain ⟨a, kvs, rfl, rfl, ha, q⟩ := h
  cases rx
  cases rxs
  obtain ⟨z, hd, vs, rel, o, es, ep, ho, hx, hdat, _⟩ := dk_rd I.hok ha
  refine DT.callItems (es := es) (ep := ep) hd ⟨o, ho, hx, hdat⟩ ?_
  have hf : H s.heap.objs.size = none := I.hok.fresh (Nat.le_refl _)
  exact ⟨.ref s.heap.objs.size, upd H s.heap.objs.size (DX.itemsO s.heap.objs.size a), I.laid (t' := s.toks) (fun b u e => Heap.get?_push_of_some _ e) (Nat.le_refl _) (DX.itemsO_ok (Heap.get?_push_size _ rfl)), rfl, q _ hf⟩
def kAt (ns : List Int) (j : Nat) : Int := ns.getD j 0
def rSortItK (K : PySem.W.Frag) : List V → Hp → VK → Prop := fun vs H Q => ∃ (p a : Addr) (kvs : List (Key × V)) (ns : List Int) (ds : List PyData), vs = [.ref p] ∧ H p = some (DX.itemsO p a) ∧ Rd H a (.dK kvs) ∧ kvs.map (·.1) = ns.map Sum.inl ∧ DpAll K H (kvs.map (·.2)) ds ∧ ns.Nodup ∧ ns.length < 64 ∧
  (∀ x ∈ ds, ∀ y ∈ ds, PySem.W.alike x y = true) ∧ (∀ x ∈ ds, x.depth ≤ 50) ∧
  ∀ (H' : Hp) (l : Addr) (ps : List (Addr × Nat)), (∀ b o, H b = some o → H' b = some o) → H l = none → (∀ z ∈ ps, H z.1 = none) → (ps.map (·.2)).Perm (List.range ns.length) → (ps.map fun z => kAt ns z.2).Pairwise (· ≤ ·) → H' l = some (.lst (ps.map fun z => V.ref z.1)) →
    (∀ z ∈ ps, ∃ e, kvs[z.2]? = some e ∧ H' z.1 = some (.tup [.int (kAt ns z.2), e.2])) → Q (.ref l) H'
theorem dpAll_get {K : PySem.W.Frag} {H : Hp} : ∀ {vs : List V} {ds : List PyData}, DpAll K H vs ds → vs.length = ds.length ∧ ∀ (j : Nat) v, vs[j]? = some v → ∃ d, ds[j]? = some d ∧ Dp K H v d
  | _, _, .nil => ⟨rfl, fun j v h => by simp at h⟩
  | _, _, .cons a t => by
    obtain ⟨l, q⟩ := dpAll_get t
    refine ⟨by simp [l], fun j v h => ?_⟩
    cases j with
    | zero => simp at h; subst h; exact ⟨_, rfl, a⟩
    | succ j => simpa using q j v (by simpa using h)
theorem cr_sortItK (hc : X.calm = true) (hu : X.A.units + 64 < cLine) : CallR X (.builtin "sorted") (rSortItK X.K) := by
  intro pins s σ H xs us Q I r h
  obtain ⟨p, a, kvs, ns, ds, rfl, hp, ha, hk, hD, hnd, h64, hal, hdp, q⟩ := h
  obtain rfl := Vals.ref1 r
  have view : s.heap.IsItemsView p a := (show ObjOk X.prog X.w H s.heap p (DX.itemsO p a) from I.hok p _ hp).1
  obtain ⟨z, hd, vs, rel, o, es, ep, ho, hx, hdat, hka, hpa, hn⟩ := dk_rd I.hok ha
  have l1 : kvs.length = vs.length := Paired.length rel
  have l0 : kvs.length = ns.length := by have := congrArg List.length hk; simpa using this
  have l2 : es.size = vs.length := by rw [← hpa.length]; exact Array.length_toList.symm
  have hh : X.A.handled = none := I.ok.hd hc
  obtain ⟨lD, gD⟩ := dpAll_get hD
  rw [List.length_map] at lD
  refine DT.sortedI (es := es) (ep := ep) hh view ⟨o, ho, hx, hdat⟩ (by rw [sizeLine_eq]; omega) fun h' tk as hk' hlt hl hG => ?_
  have lak : as.length = ns.length := by omega
  have nd : as.Nodup := List.Pairwise.imp (fun h => Nat.ne_of_lt h) hG.rise
  have pr : ∀ (j : Nat) (b : Addr), as[j]? = some b → ∃ (e : Key × V) (t : Tok) (u : Value) (d : PyData), kvs[j]? = some e ∧ h'.get? b = some { cls := .type "tuple", data := .seq #[Value.int (kAt ns j) t, u] } ∧ RelV e.2 u ∧ ds[j]? = some d ∧ Dp X.K H e.2 d := by
    intro j b hj
    obtain ⟨en, he, hg⟩ := hG.pairs j b hj
    have hjl : j < kvs.length := by have := (List.getElem?_eq_some_iff.mp hj).1; omega
    have hkj : kvs[j]? = some kvs[j] := List.getElem?_eq_getElem hjl
    obtain ⟨⟨k, v⟩, hv, e1, e2⟩ := paired_get rel hkj
    obtain ⟨hkey, hval⟩ := hpa.get? (i := j) (e := en) (k := k) (v := v) (by rw [Array.getElem?_toList]; exact he) hv
    have rk : Vals [kV k] [en.key] := keys_at (us := [en.key]) (vs := [(k, v)]) rfl fun i u hu' => by
      cases i with
      | zero => simp at hu'; subst hu'; exact ⟨k, v, rfl, hkey⟩
      | succ i => simp at hu'
    have hn' : (kvs.map (·.1))[j]? = some k := by rw [List.getElem?_map, hkj]; exact congrArg some e1
    rw [hk, List.getElem?_map] at hn'
    have hkN : k = Sum.inl (kAt ns j) := by
      unfold kAt
      cases q : ns[j]? with
      | none => rw [q] at hn'; cases hn'
      | some n => rw [q] at hn'; simp [List.getD, q]; exact (Option.some.inj hn').symm
    cases rk with
    | cons r1 r2 =>
      rw [hkN] at r1
      obtain ⟨t, ht⟩ := r1
      obtain ⟨d, hd1, hd2⟩ := gD j kvs[j].2 (by rw [List.getElem?_map, hkj]; rfl)
      refine ⟨kvs[j], t, v, d, hkj, ?_, e2, hd1, hd2⟩
      rw [hg, ht, hval]
  have hob : (h'.push { cls := .type "list", data := .seq (as.map Value.ref).toArray }).get? h'.objs.size = some (seqObj "list" (as.map Value.ref).toArray 0) := Heap.get?_push_size _ rfl
  have kb : ∀ b o, s.heap.get? b = some o → (h'.push { cls := .type "list", data := .seq (as.map Value.ref).toArray }).get? b = some o := fun b o e => Heap.get?_push_of_some _ (hk' b o e)
  have ne0 : ∀ b o, h'.get? b = some o → b ≠ h'.objs.size := fun b o e => Nat.ne_of_lt (Heap.lt_size e)
  have dead : h'.get? h'.objs.size = none := by
    cases e : h'.get? h'.objs.size with
    | none => rfl
    | some o => exact absurd rfl (ne0 _ _ e)
  have ka : ∀ b o, h'.get? b = some o → (h'.push { cls := .type "list", data := .seq (as.map Value.ref).toArray }).get? b = some o := fun b o e => Heap.get?_push_of_some _ e
  generalize hh2 : h'.push { cls := .type "list", data := .seq (as.map Value.ref).toArray } = h2 at hob kb ka ⊢
  let enc : Addr × Nat → PyData := fun z => .tuple [.int (kAt ns z.2), ds.getD z.2 .none]
  let bs : List (Addr × Nat) := as.zipIdx
  have lbs : bs.length = as.length := List.length_zipIdx
  have bsg : ∀ j (z : Addr × Nat), bs[j]? = some z → as[j]? = some z.1 ∧ z.2 = j := fun j z hz => by
    rw [List.getElem?_zipIdx] at hz
    cases e : as[j]? with
    | none => rw [e] at hz; cases hz
    | some b => rw [e] at hz; simp at hz; subst hz; exact ⟨rfl, rfl⟩
  have bsm : ∀ z ∈ bs, as[z.2]? = some z.1 := fun z hz => by
    obtain ⟨j, hj⟩ := List.mem_iff_getElem?.mp hz
    obtain ⟨h1, h2⟩ := bsg j z hj
    rw [h2]
    exact h1
  have dAt : ∀ j d, ds[j]? = some d → ds.getD j .none = d := fun j d h => by simp [List.getD, h]
  have e1 : PySem.W.EachIs (fun v (b : Addr × Nat) => v = Value.ref b.1) (as.map Value.ref) bs := each_get (by rw [List.length_map, lbs]) fun j x y hx hy => by
    obtain ⟨h1, _⟩ := bsg j y hy
    rw [List.getElem?_map, h1] at hx
    exact (Option.some.inj hx).symm
  have er : PySem.W.EachIs (fun v (b : Addr × Nat) => ∃ as', Reads h2 v (enc b) as' ∧ h'.objs.size ∉ as') (as.map Value.ref) bs := each_get (by rw [List.length_map, lbs]) fun j x y hx hy => by
    obtain ⟨h1, hj⟩ := bsg j y hy
    rw [List.getElem?_map, h1] at hx
    have hx' := Option.some.inj hx
    subst hx'
    subst hj
    obtain ⟨e, t, u, d, q1, q2, q3, q4, q5⟩ := pr y.2 y.1 h1
    obtain ⟨as', r'⟩ := Dp.reads I d e.2 u q5 q3
    have r2 : Reads h' u d as' := PyProof.Rows.Reads.keeps hk' r'
    refine ⟨[] ++ (as' ++ []), .tuple (ka _ _ q2) rfl rfl (.cons (.int _ _) (.cons ?_ .nil)), ?_⟩
    · rw [dAt y.2 d q4]
      exact PyProof.Rows.Reads.keeps ka r2
    · intro hm
      simp at hm
      obtain ⟨o, ho'⟩ := PySem.W.fd_live r2 _ hm
      rw [dead] at ho'
      cases ho'
  have memD : ∀ z ∈ bs, ds.getD z.2 .none ∈ ds := fun z hz => by
    have h1 := (List.getElem?_eq_some_iff.mp (bsm z hz)).1
    have h2 : z.2 < ds.length := by omega
    simp [List.getD, List.getElem?_eq_getElem h2]
  refine PySem.W.list_sort_data (s := { s with heap := h2, toks := tk }) (enc := enc) hob e1 er ?_ ?_ (by rw [lbs, sizeLine_eq]; omega) (fun b hb => ?_) fun out o1 o2 => ?_
  · intro x hx y hy
    obtain ⟨b, hb, rfl⟩ := List.mem_map.mp hx
    obtain ⟨c, hc', rfl⟩ := List.mem_map.mp hy
    show PySem.W.alike (.tuple [.int (kAt ns b.2), ds.getD b.2 .none]) (.tuple [.int (kAt ns c.2), ds.getD c.2 .none]) = true
    rw [PySem.W.alike, PySem.W.alikeAll, PySem.W.alikeAll, hal _ (memD b hb) _ (memD c hc')]
    rfl
  · exact .inl fun d hd => by
      obtain ⟨b, _, rfl⟩ := List.mem_map.mp hd
      exact ⟨_, _, rfl⟩
  · have := hdp _ (memD b hb)
    show X.A.units + 1 + 1 + PyData.depth (.tuple [.int _, _]) < cLine
    simp only [PyData.depth, PyData.depthAll]
    omega
  · show EP X pins σ Q (.ref h'.objs.size) { s with heap := sortedHeap h2 h'.objs.size (as.map Value.ref) (List.toArray out), toks := tk }
    let ps : List (Addr × Nat) := bs.mergeSort (PySem.W.dataLe false enc)
    have pp : ps.Perm bs := List.mergeSort_perm bs _
    have hout : out = ps.map fun z => Value.ref z.1 := each_map' o2
    have psm : ∀ z ∈ ps, as[z.2]? = some z.1 := fun z hz => bsm z (pp.mem_iff.mp hz)
    have hperm : (ps.map (·.2)).Perm (List.range ns.length) := by
      have e := pp.map (·.2)
      rw [show bs.map (·.2) = List.range ns.length from by rw [← lak, List.range_eq_range']; exact List.zipIdx_map_snd 0 as] at e
      exact e
    have hlt2 : ∀ z ∈ ps, z.2 < ns.length := fun z hz => by
      have := (List.getElem?_eq_some_iff.mp (psm z hz)).1
      omega
    have hsort : (ps.map fun z => kAt ns z.2).Pairwise (· ≤ ·) := by
      rw [List.pairwise_map]
      have tot : PySem.W.TotalLe (PySem.W.dataLe false enc) := PySem.W.sortLe_total (PyProof.Rows.listOrd PyProof.Rows.itemOrd) false fun b => PySem.W.keyToks (enc b)
      have e := List.pairwise_mergeSort (le := PySem.W.dataLe false enc) tot.trans (fun a b => by rw [Bool.or_eq_true]; exact tot.total a b) bs
      have ndp : (ps.map (·.2)).Nodup := hperm.nodup_iff.mpr List.nodup_range
      have e' : ps.Pairwise fun x y => PySem.W.dataLe false enc x y = true := e
      refine List.Pairwise.imp_of_mem (fun {x y} hx hy h => ?_) e'
      rw [PySem.W.dataLe_eq] at h
      have h' : PySem.W.dataLt (enc y) (enc x) = false := by simpa using h
      by_cases q : kAt ns y.2 = kAt ns x.2
      · omega
      · have : PySem.W.dataLt (enc y) (enc x) = decide (kAt ns y.2 < kAt ns x.2) := by
          show PySem.W.dataLt (.tuple [.int (kAt ns y.2), ds.getD y.2 .none]) (.tuple [.int (kAt ns x.2), ds.getD x.2 .none]) = _
          rw [PySem.W.dataLt_tuple, PySem.W.dataLt_cons rfl, PySem.W.dataLt_int, if_neg]
          show ¬ (kAt ns y.2 == kAt ns x.2) = true
          simpa using q
        rw [this] at h'
        have := of_decide_eq_false h'
        omega
    have kF : ∀ b o, b ≠ h'.objs.size → h2.get? b = some o → (sortedHeap h2 h'.objs.size (as.map Value.ref) (List.toArray out)).get? b = some o := fun b o hb e => (PyProof.Rows.sortedHeap_old hb (Heap.lt_size e)).trans e
    have kS : ∀ b o, s.heap.get? b = some o → (sortedHeap h2 h'.objs.size (as.map Value.ref) (List.toArray out)).get? b = some o := fun b o e => kF b o (ne0 _ _ (hk' b o e)) (kb b o e)
    obtain ⟨eF, heF⟩ := PyProof.Rows.sortedHeap_at (vs := as.map Value.ref) (out := List.toArray out) hob
    have I1 : Inv X pins σ H { s with heap := sortedHeap h2 h'.objs.size (as.map Value.ref) (List.toArray out), toks := tk } := I.kept (t' := tk) kS
    have hn0 : H h'.objs.size = none := I.hok.fresh (Nat.le_of_lt hlt)
    have hlen : (ps.map fun z => V.ref z.1).length ≤ sizeLine := by
      have e := hperm.length_eq
      rw [List.length_map, List.length_range] at e
      rw [List.length_map, sizeLine_eq]
      omega
    have rv : Vals (ps.map fun z => V.ref z.1) (List.toArray out).toList := by
      rw [List.toList_toArray, hout]
      exact vals_maps (fun z : Addr × Nat => V.ref z.1) (fun z => Value.ref z.1) ps fun _ _ => rfl
    have I2 : Inv X pins σ (upd H h'.objs.size (.lst (ps.map fun z => V.ref z.1))) { s with heap := sortedHeap h2 h'.objs.size (as.map Value.ref) (List.toArray out), toks := tk } :=
      I1.take (h' := sortedHeap h2 h'.objs.size (as.map Value.ref) (List.toArray out)) (t' := tk) (fun b ob _ e => e) (I.fpOk (Nat.le_of_lt hlt) hn0) ⟨hlen, (List.toArray out).toList, eF, rv, heF⟩
    have fr : ∀ b ∈ as, H b = none := fun b hb => I.hok.fresh (Nat.le_of_lt (hG.above b hb))
    obtain ⟨H2, I3, g, qt⟩ := DX.takeT (P := fun b vs => ∃ (j : Nat) (e : Key × V), as[j]? = some b ∧ kvs[j]? = some e ∧ vs = [.int (kAt ns j), e.2]) I as _ I2 nd fun b hb => by
      obtain ⟨j, hj⟩ := List.mem_iff_getElem?.mp hb
      obtain ⟨e, t, u, d, q1, q2, q3, q4, q5⟩ := pr j b hj
      have hbl : s.heap.objs.size ≤ b := Nat.le_of_lt (hG.above b hb)
      refine ⟨hbl, ?_, [.int (kAt ns j), e.2], ⟨j, e, hj, q1, rfl⟩, fun H3 => ⟨(by rw [sizeLine_eq]; show 2 ≤ 16777216; omega), [Value.int (kAt ns j) t, u], .cons ⟨t, rfl⟩ (.cons q3 .nil), ⟨_, kF _ _ (ne0 _ _ q2) (ka _ _ q2), rfl, 0, rfl⟩⟩⟩
      rw [upd_ne (ne0 _ _ q2)]
      exact I.hok.fresh hbl
    have gr : ∀ b o, H b = some o → H2 b = some o := fun b o e => g b o (by rw [upd_ne (ne_of_none e hn0)]; exact e)
    refine ⟨.ref h'.objs.size, H2, I3, rfl, q H2 h'.objs.size ps gr hn0 (fun z hz => fr z.1 (List.mem_of_getElem? (psm z hz))) hperm hsort (g _ _ upd_same) fun z hz => ?_⟩
    obtain ⟨vs', ⟨j, e, j1, j2, ev⟩, hH⟩ := qt z.1 (List.mem_of_getElem? (psm z hz))
    have eij : z.2 = j := (List.getElem?_inj (List.getElem?_eq_some_iff.mp (psm z hz)).1 nd).mp ((psm z hz).trans j1.symm)
    subst eij
    rw [ev] at hH
    exact ⟨e, j2, hH⟩
end
end FD

/-! FDk: the same as data. -/
namespace FD
open PySem PySem.Spec PyProof.Rows L2
def encI (es : List (Int × D)) : List (Key × D) := es.map fun e => (Sum.inl e.1, e.2)
def sortE (es : List (Int × D)) : List (Int × D) := es.mergeSort fun a b => decide (a.1 ≤ b.1)
theorem sortE_perm (es : List (Int × D)) : (sortE es).Perm es := List.mergeSort_perm es _
theorem sortE_sorted (es : List (Int × D)) : (sortE es).Pairwise fun a b => a.1 ≤ b.1 := by
  have := List.pairwise_mergeSort (le := fun a b : Int × D => decide (a.1 ≤ b.1)) (fun a b c h1 h2 => by simp at *; omega) (fun a b => by simp; omega) es
  exact this.imp fun h => by simpa using h
theorem keyed_eq : ∀ {xs ys : List (Int × D)}, xs.Perm ys → (xs.map (·.1)).Nodup → (xs.Pairwise fun a b => a.1 ≤ b.1) → (ys.Pairwise fun a b => a.1 ≤ b.1) → xs = ys
  | [], ys, p, _, _, _ => p.nil_eq
  | x :: xs, [], p, _, _, _ => by have := p.length_eq; simp at this
  | x :: xs, y :: ys, p, nd, h1, h2 => by
    have hx : x ∈ y :: ys := p.mem_iff.mp List.mem_cons_self
    have hy : y ∈ x :: xs := p.mem_iff.mpr List.mem_cons_self
    have e : x = y := by
      rcases List.mem_cons.mp hy with h | h
      · exact h.symm
      · have a : x.1 ≤ y.1 := (List.pairwise_cons.mp h1).1 y h
        have b : y.1 ≤ x.1 := by
          rcases List.mem_cons.mp hx with h' | h'
          · rw [h']; exact Int.le_refl _
          · exact (List.pairwise_cons.mp h2).1 x h'
        have e1 : y.1 = x.1 := by omega
        exact absurd (show x.1 ∈ xs.map (·.1) by rw [← e1]; exact List.mem_map_of_mem (f := (·.1)) h) (List.nodup_cons.mp nd).1
    subst e
    rw [keyed_eq (List.Perm.cons_inv p) (List.nodup_cons.mp nd).2 (List.pairwise_cons.mp h1).2 (List.pairwise_cons.mp h2).2]
def eAt (es : List (Int × D)) (j : Nat) : Int × D := (es[j]?).getD (0, .non)
theorem range_eAt (es : List (Int × D)) : (List.range es.length).map (eAt es) = es := by
  apply List.ext_getElem?
  intro i
  rw [List.getElem?_map]
  by_cases h : i < es.length
  · rw [List.getElem?_range h]
    simp [eAt, List.getElem?_eq_getElem h]
  · rw [List.getElem?_eq_none (by simpa using h), List.getElem?_eq_none (by simpa using h)]
    rfl
theorem pyA_map : ∀ (ds : List D), D.pyA ds = ds.map D.py
  | [] => rfl
  | d :: ds => by rw [D.pyA, pyA_map ds]; rfl
theorem pureA_of : ∀ {ds : List D}, (∀ d ∈ ds, d.pure = true) → D.pureA ds = true
  | [], _ => rfl
  | d :: ds, h => by
    rw [D.pureA, h d List.mem_cons_self, pureA_of fun x hx => h x (List.mem_cons_of_mem _ hx)]
    rfl
section
variable {X : Cx}
theorem pg_tupK {K : PySem.W.Frag} {es : List Expr} {k : Nat} {t : TGs} {pos : Pos} (n : Nat) (hc : X.calm = true) (h : PGs X es t) (hK : X.K = K := by rfl)
    (hn : (assignEach es X.env).length = n := by rfl) (hst : (assignEach es X.env).findIdx? (·.1) = none := by rfl) : PG X (.Tuple es k pos) (gTup K n t) := hK ▸ pg_tup hc h hn hst
end
section
variable {K : PySem.W.Frag} {m : Md} {Γ : List Sl} {ta : TE} {v : V} {up : Res → List Sl}
theorem isA_mapped {I : Hp} {α : Type} {f : α → V} {g : α → D} : ∀ {zs : List α}, (∀ z ∈ zs, Is K I (f z) (g z)) → IsA K I (zs.map f) (zs.map g)
  | [], _ => .nil
  | z :: zs, h => .cons (h z List.mem_cons_self) (isA_mapped fun x hx => h x (List.mem_cons_of_mem _ hx))
theorem ev_sortItP {es : List (Int × D)} (hr : RefE K ta Γ v) (hp : Plc K Γ v (Rdic K (encI es)) up) (nd : (es.map (·.1)).Nodup) (hl : es.length < 64) (hpu : ∀ e ∈ es, e.2.pure = true) (hal : ∀ x ∈ es, ∀ y ∈ es, PySem.W.alike x.2.py y.2.py = true) (hd : ∀ x ∈ es, x.2.py.depth ≤ 50) :
    Ev K m (tCB (rSortItK K) (tCons (tBM0 K "dict" rItemsK ta) tNil)) Γ (.lst ((sortE es).map fun e => .tup [.int e.1, e.2])) Γ := fun σ I H L w Q q => hr σ I H L w _ (by
  obtain ⟨L1, p1, _⟩ := hp σ I H L w
  obtain ⟨a, kvs, rfl, rfl, ha, ka⟩ := p1
  have keys : kvs.map (·.1) = (es.map (·.1)).map Sum.inl := by rw [ka.keys, encI, List.map_map, List.map_map]; rfl
  have vals : IsA K I (kvs.map (·.2)) (es.map (·.2)) := by
    have := ka.vals
    rwa [encI, List.map_map] at this
  refine ⟨.inr (.inr (.inl ⟨rfl, .inl ⟨kvs, ha⟩⟩)), a, kvs, rfl, rfl, .inl ha, fun p hp0 => ?_⟩
  have e1 : Ex H (upd H p (DX.itemsO p a)) := Ex.new hp0
  refine ⟨p, a, kvs, es.map (·.1), es.map (·.2.py), rfl, upd_same, .inl (e1 _ _ ha), keys, ?_, nd, by rw [List.length_map]; exact hl, ?_, ?_, fun H' l ps g hl0 hz hperm hsort hlst htup => ?_⟩
  · have := IsA.dp (w.sub.trans e1) (pureA_of fun d hd' => by obtain ⟨e, he, rfl⟩ := List.mem_map.mp hd'; exact hpu e he) vals
    rw [pyA_map, List.map_map] at this
    exact this
  · intro x hx y hy
    obtain ⟨e, he, rfl⟩ := List.mem_map.mp hx
    obtain ⟨e', he', rfl⟩ := List.mem_map.mp hy
    exact hal e he e' he'
  · intro x hx
    obtain ⟨e, he, rfl⟩ := List.mem_map.mp hx
    exact hd e he
  rw [List.length_map] at hperm
  have g0 : Ex H H' := e1.trans g
  have hlH : H l = none := e1.back hl0
  have hzH : ∀ z ∈ ps, H z.1 = none := fun z h => e1.back (hz z h)
  let I' : Hp := fun b => if b = l ∨ b ∈ ps.map (·.1) then H' b else I b
  have new : ∀ b, b = l ∨ b ∈ ps.map (·.1) → H b = none := fun b h => by
    rcases h with rfl | h
    · exact hlH
    · obtain ⟨z, hz', rfl⟩ := List.mem_map.mp h
      exact hzH z hz'
  have ei : Ex I I' := fun b o h => by
    show (if b = l ∨ b ∈ ps.map (·.1) then H' b else I b) = some o
    rw [if_neg]
    · exact h
    · intro k
      have := new b k
      rw [w.sub b o h] at this
      cases this
  have n : New I H I' H' := ⟨ei, g0, fun b o h => by
    by_cases k : b = l ∨ b ∈ ps.map (·.1)
    · exact .inr (new b k)
    · have h' : (if b = l ∨ b ∈ ps.map (·.1) then H' b else I b) = some o := h
      rw [if_neg k] at h'
      exact .inl h'⟩
  have s' : Ex I' H' := fun b o h => by
    have h' : (if b = l ∨ b ∈ ps.map (·.1) then H' b else I b) = some o := h
    by_cases k : b = l ∨ b ∈ ps.map (·.1)
    · rw [if_pos k] at h'; exact h'
    · rw [if_neg k] at h'; exact g0 b o (w.sub b o h')
  have lt : ∀ z ∈ ps, z.2 < es.length := fun z hz' => by
    have := hperm.mem_iff.mp (List.mem_map_of_mem (f := (·.2)) hz')
    simpa using this
  have kA : ∀ z ∈ ps, kAt (es.map (·.1)) z.2 = (eAt es z.2).1 := fun z hz' => by
    have := lt z hz'
    simp [kAt, eAt, List.getElem?_eq_getElem this]
  have eX : (ps.map fun z => eAt es z.2) = sortE es := by
    have pX : (ps.map fun z => eAt es z.2).Perm es := by
      have := hperm.map (eAt es)
      rw [List.map_map, range_eAt] at this
      exact this
    refine keyed_eq (pX.trans (sortE_perm es).symm) ((pX.map (·.1)).nodup_iff.mpr nd) ?_ (sortE_sorted es)
    rw [List.pairwise_map] at hsort ⊢
    exact List.Pairwise.imp_of_mem (fun {x y} hx hy h => by rw [kA x hx, kA y hy] at h; exact h) hsort
  refine q (.ref l) I' H' L (w.new n s') (Guar.new n) ?_
  rw [← eX, List.map_map]
  refine .lst (a := l) (xs := ps.map fun z => V.ref z.1) (sq_of (show (if l = l ∨ l ∈ ps.map (·.1) then H' l else I l) = _ from by rw [if_pos (.inl rfl)]; exact hlst)) (isA_mapped fun z hz' => ?_)
  obtain ⟨e, he, ht⟩ := htup z hz'
  obtain ⟨d, hd1, hd2⟩ := vals.get (i := z.2) (v := e.2) (by rw [List.getElem?_map, he]; rfl)
  have hde : d = (eAt es z.2).2 := by
    have h := lt z hz'
    rw [List.getElem?_map, List.getElem?_eq_getElem h] at hd1
    simp at hd1
    simp [eAt, List.getElem?_eq_getElem h, hd1]
  show Is K I' (.ref z.1) (.tup [.int (eAt es z.2).1, (eAt es z.2).2])
  refine .tup (st_of (show (if z.1 = l ∨ z.1 ∈ ps.map (·.1) then H' z.1 else I z.1) = _ from by rw [if_pos (.inr (List.mem_map_of_mem (f := (·.1)) hz'))]; exact ht)) ?_
  rw [← kA z hz', ← hde]
  exact .cons (.int _) (.cons (hd2.mono n.i) .nil))
end
end FD

/-! FDl: a method that gives a resource; minus. -/
namespace FD
open PySem PySem.Spec PyProof.Rows L2
section
variable {K : PySem.W.Frag} {m : Md} {Γ Γ' : List Sl} {to : TE} {ta : TA} {v : V} {k : Nat} {R Rn : Res} {C : Addr} {mm : Str} {sp : Sp} {E : XK} {ds : List D} {i : Int}
theorem und_neg : UnD K (rU fun i => .int (-i)) (.int i) (.int (-i)) := fun I H v s hv => by
  cases hv
  exact pureR_here s (.int _) fun Q q => ⟨i, rfl, q⟩
theorem er_meth (hk : Γ[k]? = some (.res v R)) (hc : ObjAt K C mm R) (hs : ConR K sp [.res v R] Rn [.res v R]) : EvR K (tMeth C mm sp [] E (tVar k) tNil) Γ Rn Γ := fun σ I H L w Q q => by
  obtain ⟨hσ, L1, w1, s1⟩ := w.takeR hk
  obtain ⟨_, L0, hR, _⟩ := w.stepR hk
  obtain ⟨p, dx, fv, rfl, e1, e2⟩ := hc _ _ _ _ hR
  refine ⟨_, hσ, p, dx, fv, rfl, e1, e2, ?_⟩
  show sp (V.ref p :: ([] ++ [])) H Q E
  refine ConR.frame (pre := [.res (.ref p) R]) (vs := [.ref p]) (σ := σ) hs rfl w1 Q fun x I2 H2 L2 w2 s2 => ?_
  obtain ⟨N1, N2, rfl, wa, fr⟩ := Wd.hold w2
  have wa' : Wd K (.res (.ref p) R :: Γ.set k .em) (some (.ref p) :: σ) I2 H2 N2 := wa
  obtain ⟨L3, w3, s3⟩ := Wd.setR (i := k) wa' (by rw [List.length_set]; exact (List.getElem?_eq_some_iff.mp hk).1)
  rw [List.set_set, set_self hk, set_self hσ] at w3
  obtain ⟨w4, s4⟩ := fr w3 s3
  exact q x I2 H2 _ w4 (s1.trans (s2.trans s4))
end
end FD

/-! FDm: in of tuples, chains of comparisons, any and all, tuple(..), a row backwards. -/
namespace FD
open PySem PySem.Spec PyProof.Rows L2
def rInTD (K : PySem.W.Frag) (ng : Bool) : R2 := fun x y H Q => ∃ d ds, Dp K H x d ∧ Dp K H y (.tuple ds) ∧ SeqAt.shaped d = true ∧ SeqAt.shaped (.tuple ds) = true ∧ Q (.bl ((ds.any fun z => PyData.eqv z d) ^^ ng)) H
section
variable {X : Cx}
theorem op_inTD (hu : X.A.units + 65 < cLine) : OpR X (compareOp .In) (rInTD X.K false) := by
  intro pins s σ H x y v u Q I rx ry hq
  obtain ⟨d, ds, hd, he, sd, se, q⟩ := hq
  obtain ⟨as, r1⟩ := Dp.reads I d x v hd rx
  obtain ⟨bs, r2⟩ := Dp.reads I (.tuple ds) y u he ry
  rw [Bool.xor_false] at q
  exact SeqAt.in_tuple_reads r2 r1 (SeqAt.canLay_of_shaped se) (SeqAt.canLay_of_shaped sd) (room_in_shaped sd hu) ⟨.bl _, H, I, rfl, q⟩
theorem op_notInTD (hu : X.A.units + 65 < cLine) : OpR X (compareOp .NotIn) (rInTD X.K true) := by
  intro pins s σ H x y v u Q I rx ry hq
  obtain ⟨d, ds, hd, he, sd, se, q⟩ := hq
  obtain ⟨as, r1⟩ := Dp.reads I d x v hd rx
  obtain ⟨bs, r2⟩ := Dp.reads I (.tuple ds) y u he ry
  rw [Bool.xor_true] at q
  exact SeqAt.notIn_tuple_reads r2 r1 (SeqAt.canLay_of_shaped se) (SeqAt.canLay_of_shaped sd) (room_in_shaped sd hu) ⟨.bl _, H, I, rfl, q⟩
end
section
variable {K : PySem.W.Frag} {m : Md} {Γ Γ1 Γ2 Γ3 : List Sl} {ta tb tc te : TE} {x y z u : D} {r r' : R2} {a b : Bool} {ds : List D} {ng : Bool}
theorem py_tup (ds : List D) : (D.tup ds).py = .tuple (D.pyA ds) := by simp [D.py]
theorem opd_inTD (hx : x.shaped = true) (hy : (D.tup ds).shaped = true) : OpD K (rInTD K ng) x (.tup ds) (.bl ((ds.any fun z => D.eqv z x) ^^ ng)) := fun I H v w s hv hw => by
  simp only [D.shaped, Bool.and_eq_true] at hx hy
  have h2 := Is.dp s hy.1 hw
  rw [py_tup] at h2
  refine pureR_here s (.bl _) fun Q q => ⟨x.py, D.pyA ds, Is.dp s hx.1 hv, h2, hx.2, by have := hy.2; rwa [py_tup] at this, ?_⟩
  have e : (D.pyA ds).any (fun z => PyData.eqv z x.py) = ds.any fun z => D.eqv z x := by
    rw [pyA_map, List.any_map]
    rfl
  rw [e]
  exact q
/-- a < b < c -/
theorem ev_chain (h1 : Ev K m ta Γ x Γ1) (h2 : Ev K m tb Γ1 y Γ2) (hr : OpD K r x y (.bl a)) (h3 : a = true → Ev K m tc Γ2 z Γ3) (hr' : a = true → OpD K r' y z (.bl b)) (h0 : a = false → Γ2 = Γ3) : Ev K m (tChain r r' ta tb tc) Γ (.bl (a && b)) Γ3 := fun σ I H L w Q q =>
  h1 σ I H L w _ fun vx I1 H1 L1 w1 g1 hx => h2 σ I1 H1 L1 w1 _ fun vy I2 H2 L2 w2 g2 hy => hr I2 H2 vx vy w2.sub (hx.mono g2.i) hy _ fun vz I3 H3 n3 s3 hz => by
    cases hz
    have w3 := w2.new n3 s3
    refine ⟨a, rfl, ?_⟩
    cases a with
    | false =>
      cases h0 rfl
      exact q _ I3 H3 L2 w3 ((g1.trans g2).trans (Guar.new n3)) (.bl _)
    | true =>
      show tc σ H3 _
      refine h3 rfl σ I3 H3 L2 w3 _ fun vc I4 H4 L4 w4 g4 hc => ?_
      exact hr' rfl I4 H4 vy vc w4.sub ((hy.mono n3.i).mono g4.i) hc _ fun o I5 H5 n5 s5 ho => q o I5 H5 L4 (w4.new n5 s5) ((((g1.trans g2).trans (Guar.new n3)).trans g4).trans (Guar.new n5)) ho
theorem isA_bls {I : Hp} {vs : List V} {bs : List Bool} (h : IsA K I vs (bs.map .bl)) : vs = bs.map V.bl := by
  induction bs generalizing vs with
  | nil => cases h; rfl
  | cons b bs ih =>
    cases h with
    | cons h1 h2 => cases h1; rw [ih h2]; rfl
theorem cd_any {bs : List Bool} : CallD K (rAny K) [.lst (bs.map .bl)] (.bl (bs.any id)) := fun I H vs s hv => by
  cases hv with
  | cons h1 h2 =>
    cases h2
    cases h1 with
    | lst q1 q2 =>
      have e := isA_bls q2
      subst e
      exact pureR_here s (.bl _) fun Q q => ⟨_, bs, rfl, s.l q1, q⟩
theorem cd_all {bs : List Bool} : CallD K (rAll K) [.lst (bs.map .bl)] (.bl (bs.all id)) := fun I H vs s hv => by
  cases hv with
  | cons h1 h2 =>
    cases h2
    cases h1 with
    | lst q1 q2 =>
      have e := isA_bls q2
      subst e
      exact pureR_here s (.bl _) fun Q q => ⟨_, bs, rfl, s.l q1, q⟩
def rTupOf (K : PySem.W.Frag) : List V → Hp → VK → Prop := fun xs H Q => ∃ p ys, xs = [.ref p] ∧ ((SqL K H p ys ∧ ∀ l, H l = none → Q (.ref l) (upd H l (.tup ys))) ∨ (SqT K H p ys ∧ Q (.ref p) H))
theorem cd_tupleL : CallD K (rTupOf K) [.lst ds] (.tup ds) := fun I H vs s hv Q q => by
  cases hv with
  | cons h1 h2 =>
    cases h2
    cases h1 with
    | lst q1 q2 => exact ⟨_, _, rfl, .inl ⟨s.l q1, fun p hp => let ⟨n, e⟩ := alloc (o := .tup _) s hp; q _ _ _ n e (.tup (st_of upd_same) (q2.mono n.i))⟩⟩
theorem cd_tupleT : CallD K (rTupOf K) [.tup ds] (.tup ds) := fun I H vs s hv Q q => by
  cases hv with
  | cons h1 h2 =>
    cases h2
    cases h1 with
    | tup q1 q2 => exact ⟨_, _, rfl, .inr ⟨s.t q1, q _ I H (New.refl I H) s (.tup q1 q2)⟩⟩
/-- xs[::-1] -/
theorem ev_revL (h : Ev K m te Γ (.lst ds) Γ1) : Ev K m (tRevL K te) Γ (.lst ds.reverse) Γ1 := fun σ I H L w Q q => h σ I H L w _ fun v I1 H1 L1 w1 g1 hv => by
  cases hv with
  | lst q1 q2 => exact ⟨_, _, rfl, w1.sub.l q1, fun p hp => let ⟨n, e⟩ := alloc (o := .lst _) w1.sub hp; q _ _ _ L1 (w1.new n e) (g1.trans (Guar.new n)) (.lst (sq_of upd_same) (q2.reverse.mono n.i))⟩
end
end FD

/-! FS0: trees of owned things, worlds of trees. -/
namespace FD
open PySem PySem.Spec PyProof.Rows L2

inductive T where
  | em | d (x : D) | lst (ds : List D) | dic (ks : List Key) (ts : List T) | obj (C : Addr) (ns : List Str) (ts : List T)
/-- a step into a tree: the i-th child -/
abbrev Pth := List Nat
mutual
inductive Ow (K : PySem.W.Frag) (I H : Hp) : V → T → List Addr → Prop
  | em (v : V) : Ow K I H v .em []
  | d {v : V} {x : D} : Is K I v x → Ow K I H v (.d x) []
  | lst {a : Addr} {xs : List V} {ds : List D} : H a = some (.lst xs) → IsA K I xs ds → Ow K I H (.ref a) (.lst ds) [a]
  | dic {a : Addr} {kvs : List (Key × V)} {ks : List Key} {ts : List T} {L : List Addr} : H a = some (.dK kvs) → ks = kvs.map (·.1) → OwA K I H (kvs.map (·.2)) ts L → Ow K I H (.ref a) (.dic ks ts) (a :: L)
  | obj {a dx : Addr} {fs : List (Str × V)} {C : Addr} {ns : List Str} {ts : List T} {L : List Addr} : a ≠ dx → H a = some (.ins C dx fs) → H dx = some (.own a) → ns = fs.map (·.1) → OwA K I H (fs.map (·.2)) ts L → Ow K I H (.ref a) (.obj C ns ts) (a :: dx :: L)
inductive OwA (K : PySem.W.Frag) (I H : Hp) : List V → List T → List Addr → Prop
  | nil : OwA K I H [] [] []
  | cons {v : V} {vs : List V} {t : T} {ts : List T} {L1 L2 : List Addr} : Ow K I H v t L1 → OwA K I H vs ts L2 → OwA K I H (v :: vs) (t :: ts) (L1 ++ L2)
end
section
variable {K : PySem.W.Frag} {I I' H H' : Hp}
mutual
theorem Ow.keep (e : Ex I I') : ∀ {t : T} {v : V} {L : List Addr}, (∀ a ∈ L, H' a = H a) → Ow K I H v t L → Ow K I' H' v t L
  | .em, _, _, _, h => by cases h; exact .em _
  | .d _, _, _, _, h => by
    cases h with
    | d h => exact .d (h.mono e)
  | .lst _, _, _, k, h => by
    cases h with
    | lst h1 h2 => exact .lst ((k _ (by simp)).trans h1) (h2.mono e)
  | .dic ks ts, _, _, k, h => by
    cases h with
    | dic h1 h2 h3 => exact .dic ((k _ (by simp)).trans h1) h2 (OwA.keep e (fun a ha => k a (by simp [ha])) h3)
  | .obj C ns ts, _, _, k, h => by
    cases h with
    | obj h0 h1 h2 h3 h4 => exact .obj h0 ((k _ (by simp)).trans h1) ((k _ (by simp)).trans h2) h3 (OwA.keep e (fun a ha => k a (by simp [ha])) h4)
theorem OwA.keep (e : Ex I I') : ∀ {ts : List T} {vs : List V} {L : List Addr}, (∀ a ∈ L, H' a = H a) → OwA K I H vs ts L → OwA K I' H' vs ts L
  | [], _, _, _, h => by cases h; exact .nil
  | t :: ts, _, _, k, h => by
    cases h with
    | cons h1 h2 => exact .cons (Ow.keep e (fun a ha => k a (List.mem_append_left _ ha)) h1) (OwA.keep e (fun a ha => k a (List.mem_append_right _ ha)) h2)
end
mutual
theorem Ow.live : ∀ {t : T} {v : V} {L : List Addr}, Ow K I H v t L → ∀ a ∈ L, H a ≠ none
  | .em, _, _, h, a, ha => by cases h; simp at ha
  | .d _, _, _, h, a, ha => by cases h; simp at ha
  | .lst _, _, _, h, a, ha => by
    cases h with
    | lst h1 h2 => simp at ha; subst ha; rw [h1]; exact fun z => nomatch z
  | .dic ks ts, _, _, h, a, ha => by
    cases h with
    | dic h1 h2 h3 =>
      rcases List.mem_cons.mp ha with rfl | ha
      · rw [h1]; exact fun z => nomatch z
      · exact OwA.live h3 a ha
  | .obj C ns ts, _, _, h, a, ha => by
    cases h with
    | obj h0 h1 h2 h3 h4 =>
      rcases List.mem_cons.mp ha with rfl | ha
      · rw [h1]; exact fun z => nomatch z
      · rcases List.mem_cons.mp ha with rfl | ha
        · rw [h2]; exact fun z => nomatch z
        · exact OwA.live h4 a ha
theorem OwA.live : ∀ {ts : List T} {vs : List V} {L : List Addr}, OwA K I H vs ts L → ∀ a ∈ L, H a ≠ none
  | [], _, _, h, a, ha => by cases h; simp at ha
  | t :: ts, _, _, h, a, ha => by
    cases h with
    | cons h1 h2 => exact (List.mem_append.mp ha).elim (Ow.live h1 a) (OwA.live h2 a)
end
theorem OwA.len : ∀ {ts : List T} {vs : List V} {L : List Addr}, OwA K I H vs ts L → vs.length = ts.length
  | [], _, _, h => by cases h; rfl
  | t :: ts, _, _, h => by
    cases h with
    | cons h1 h2 => simp [OwA.len h2]
end

/-! ### trees as data -/
mutual
def T.toD : T → Option D
  | .em => none
  | .d x => some x
  | .lst ds => some (.lst ds)
  | .dic ks ts => (T.toDs ts).map (.dic ks)
  | .obj C ns ts => (T.toDs ts).map (.ins C ns)
def T.toDs : List T → Option (List D)
  | [] => some []
  | t :: ts => match t.toD, T.toDs ts with
    | some x, some xs => some (x :: xs)
    | _, _ => none
end
/-- a part I of the heap with more frozen: only of L -/
structure Fz (I I' H : Hp) (L : List Addr) : Prop where
  i : Ex I I'
  s : Ex I' H
  n : ∀ a o, I' a = some o → I a = some o ∨ a ∈ L
section
variable {K : PySem.W.Frag} {I I' H H' : Hp}
theorem Fz.one {a : Addr} {o : HO} {L : List Addr} (s : Ex I H) (hI : I a = none) (hH : H a = some o) (h : a ∈ L) : Fz I (upd I a o) H L := ⟨Ex.new hI, fun b u e => by
  by_cases hb : b = a
  · subst hb; rw [upd_same] at e; cases e; exact hH
  · rw [upd_ne hb] at e; exact s b u e, fun b u e => by
  by_cases hb : b = a
  · subst hb; exact .inr h
  · rw [upd_ne hb] at e; exact .inl e⟩
theorem Fz.trans {I1 I2 : Hp} {L1 L2 L : List Addr} (a : Fz I I1 H L1) (b : Fz I1 I2 H L2) (h1 : ∀ x ∈ L1, x ∈ L) (h2 : ∀ x ∈ L2, x ∈ L) : Fz I I2 H L := ⟨a.i.trans b.i, b.s, fun x o e => (b.n x o e).elim (fun e => (a.n x o e).elim .inl fun z => .inr (h1 x z)) fun z => .inr (h2 x z)⟩
theorem Fz.out {L : List Addr} {a : Addr} (f : Fz I I' H L) (h : I a = none) (n : a ∉ L) : I' a = none := by
  cases e : I' a with
  | none => rfl
  | some o => exact (f.n a o e).elim (fun q => by rw [h] at q; cases q) fun q => absurd q n
mutual
theorem Ow.frz : ∀ {t : T} {v : V} {x : D} {I : Hp} {L : List Addr}, Ow K I H v t L → t.toD = some x → L.Nodup → (∀ a ∈ L, I a = none) → Ex I H → ∃ I', Fz I I' H L ∧ Is K I' v x
  | .em, _, _, _, _, _, e, _, _, _ => by simp [T.toD] at e
  | .d _, _, _, I, _, h, e, _, _, s => by
    simp [T.toD] at e
    subst e
    cases h with
    | d h => exact ⟨I, ⟨Ex.refl I, s, fun _ _ h => .inl h⟩, h⟩
  | .lst ds, _, _, I, _, h, e, nd, fr, s => by
    simp [T.toD] at e
    subst e
    cases h with
    | @lst a xs _ h1 h2 =>
      have f := Fz.one (L := [a]) s (fr a (by simp)) h1 (by simp)
      exact ⟨_, f, .lst (sq_of upd_same) (h2.mono f.i)⟩
  | .dic ks ts, _, _, I, _, h, e, nd, fr, s => by
    rw [T.toD] at e
    cases e1 : T.toDs ts with
    | none => simp [e1] at e
    | some xs =>
      simp [e1] at e
      subst e
      cases h with
      | @dic a kvs _ _ L h1 h2 h3 =>
        have nd' := List.nodup_cons.mp nd
        obtain ⟨I1, f1, q⟩ := OwA.frz h3 e1 nd'.2 (fun b hb => fr b (by simp [hb])) s
        have hI1 : I1 a = none := f1.out (fr a (by simp)) nd'.1
        have f2 := Fz.one (L := [a]) f1.s hI1 h1 (by simp)
        refine ⟨_, f1.trans f2 (fun x h => by simp [h]) (fun x h => by simp at h; simp [h]), .dic (Or.inl upd_same) h2 (q.mono f2.i)⟩
  | .obj C ns ts, _, _, I, _, h, e, nd, fr, s => by
    rw [T.toD] at e
    cases e1 : T.toDs ts with
    | none => simp [e1] at e
    | some xs =>
      simp [e1] at e
      subst e
      cases h with
      | @obj a dx fs _ _ _ L h0 h1 h2 h3 h4 =>
        have nd' := List.nodup_cons.mp nd
        have nd2 := List.nodup_cons.mp nd'.2
        obtain ⟨I1, f1, q⟩ := OwA.frz h4 e1 nd2.2 (fun b hb => fr b (by simp [hb])) s
        have hI1 : I1 a = none := f1.out (fr a (by simp)) (fun h => nd'.1 (by simp [h]))
        have f2 := Fz.one (L := [a]) f1.s hI1 h1 (by simp)
        refine ⟨_, f1.trans f2 (fun x h => by simp [h]) (fun x h => by simp at h; simp [h]), .ins upd_same h3 (q.mono f2.i)⟩
theorem OwA.frz : ∀ {ts : List T} {vs : List V} {xs : List D} {I : Hp} {L : List Addr}, OwA K I H vs ts L → T.toDs ts = some xs → L.Nodup → (∀ a ∈ L, I a = none) → Ex I H → ∃ I', Fz I I' H L ∧ IsA K I' vs xs
  | [], _, _, I, _, h, e, _, _, s => by
    simp [T.toDs] at e
    subst e
    cases h
    exact ⟨I, ⟨Ex.refl I, s, fun _ _ h => .inl h⟩, .nil⟩
  | t :: ts, _, _, I, _, h, e, nd, fr, s => by
    rw [T.toDs] at e
    cases e1 : t.toD with
    | none => simp [e1] at e
    | some x =>
      cases e2 : T.toDs ts with
      | none => simp [e1, e2] at e
      | some xs =>
        simp [e1, e2] at e
        subst e
        cases h with
        | @cons v vs _ _ L1 L2 h1 h2 =>
          have nd' := List.nodup_append.mp nd
          obtain ⟨I1, f1, q1⟩ := Ow.frz h1 e1 nd'.1 (fun b hb => fr b (by simp [hb])) s
          have h2' : OwA K I1 H vs ts L2 := h2.keep f1.i fun _ _ => rfl
          obtain ⟨I2, f2, q2⟩ := OwA.frz h2' e2 nd'.2.1 (fun b hb => f1.out (fr b (by simp [hb])) fun z => nd'.2.2 b z b hb rfl) f1.s
          exact ⟨I2, f1.trans f2 (fun x h => by simp [h]) (fun x h => by simp [h]), .cons (q1.mono f2.i) q2⟩
end
end

/-! ### worlds -/
inductive EnvT (K : PySem.W.Frag) (I H : Hp) : List T → Sg → List Addr → Prop
  | nil : EnvT K I H [] [] []
  | em {γ : List T} {σ : Sg} {L : List Addr} (x : Option V) : EnvT K I H γ σ L → EnvT K I H (.em :: γ) (x :: σ) L
  | cons {γ : List T} {σ : Sg} {t : T} {v : V} {L1 L2 : List Addr} : Ow K I H v t L1 → EnvT K I H γ σ L2 → EnvT K I H (t :: γ) (some v :: σ) (L1 ++ L2)
structure WS (K : PySem.W.Frag) (γ : List T) (σ : Sg) (I H : Hp) (L : List Addr) : Prop where
  env : EnvT K I H γ σ L
  nd : L.Nodup
  fr : ∀ a ∈ L, I a = none
  sub : Ex I H
section
variable {K : PySem.W.Frag} {I I' H H' : Hp} {γ γ' : List T} {σ : Sg} {L L' : List Addr} {t t' : T} {v : V} {x : D}
theorem EnvT.live : ∀ {γ : List T} {σ : Sg} {L : List Addr}, EnvT K I H γ σ L → ∀ a ∈ L, H a ≠ none
  | _, _, _, .nil, _, h => by simp at h
  | _, _, _, .em _ e, a, h => e.live a h
  | _, _, _, .cons p e, a, h => (List.mem_append.mp h).elim (p.live a) (e.live a)
theorem EnvT.len : ∀ {γ : List T} {σ : Sg} {L : List Addr}, EnvT K I H γ σ L → γ.length = σ.length
  | _, _, _, .nil => rfl
  | _, _, _, .em _ e => by simp [e.len]
  | _, _, _, .cons _ e => by simp [e.len]
theorem EnvT.keep (e : Ex I I') : ∀ {γ : List T} {σ : Sg} {L : List Addr}, (∀ a ∈ L, H' a = H a) → EnvT K I H γ σ L → EnvT K I' H' γ σ L
  | _, _, _, _, .nil => .nil
  | _, _, _, k, .em x q => .em x (q.keep e k)
  | _, _, _, k, .cons p q => .cons (p.keep e fun a h => k a (List.mem_append_left _ h)) (q.keep e fun a h => k a (List.mem_append_right _ h))
theorem WS.live (w : WS K γ σ I H L) : ∀ a ∈ L, H a ≠ none := w.env.live
theorem WS.new (w : WS K γ σ I H L) (n : New I H I' H') (s : Ex I' H') : WS K γ σ I' H' L where
  env := w.env.keep n.i fun a h => by
    cases e : H a with
    | none => exact absurd e (w.live a h)
    | some o => exact n.h a o e
  nd := w.nd
  fr a h := by
    cases e : I' a with
    | none => rfl
    | some o =>
      rcases n.n a o e with q | q
      · rw [w.fr a h] at q; cases q
      · exact absurd q (w.live a h)
  sub := s
/-- a slot taken out: what stands around it -/
theorem EnvT.get : ∀ {γ : List T} {σ : Sg} {L : List Addr} {i : Nat} {t : T}, EnvT K I H γ σ L → γ[i]? = some t → t ≠ .em → ∃ v, σ[i]? = some (some v) ∧ ∃ L1 Li L2, L = L1 ++ (Li ++ L2) ∧ Ow K I H v t Li ∧
    ∀ (I' H' : Hp) (t' : T) (v' : V) (Li' : List Addr), Ex I I' → (∀ a, a ∈ L1 ++ L2 → H' a = H a) → Ow K I' H' v' t' Li' → EnvT K I' H' (γ.set i t') (σ.set i (some v')) (L1 ++ (Li' ++ L2))
  | _, _, _, _, _, .nil, h, _ => by simp at h
  | _, _, _, 0, _, .em _ _, h, n => by simp at h; exact absurd h.symm n
  | _, _, _, 0, _, .cons (L1 := Li) (L2 := L2) (v := v) p e, h, _ => by
    simp at h
    subst h
    exact ⟨v, rfl, [], Li, L2, rfl, p, fun I' H' t' v' Li' ei k q => (EnvT.cons (L1 := Li') (L2 := L2) q (e.keep ei fun a h => k a (by simpa using h)) : EnvT K I' H' _ _ (Li' ++ L2))⟩
  | _, _, _, i + 1, t, .em x e, h, n => by
    obtain ⟨v, h1, L1, Li, L2, h2, h3, h4⟩ := EnvT.get (i := i) (t := t) e (by simpa using h) n
    exact ⟨v, by simpa using h1, L1, Li, L2, h2, h3, fun I' H' t' v' Li' ei k q => .em x (h4 I' H' t' v' Li' ei k q)⟩
  | _, _, _, i + 1, t, .cons (L1 := L0) p e, h, n => by
    obtain ⟨v, h1, L1, Li, L2, h2, h3, h4⟩ := EnvT.get (i := i) (t := t) e (by simpa using h) n
    refine ⟨v, by simpa using h1, L0 ++ L1, Li, L2, by rw [h2, List.append_assoc], h3, fun I' H' t' v' Li' ei k q => ?_⟩
    rw [List.append_assoc]
    exact .cons (p.keep ei fun a h => k a (List.mem_append_left _ (List.mem_append_left _ h))) (h4 I' H' t' v' Li' ei (fun a h => k a (by
      rcases List.mem_append.mp h with h | h
      · exact List.mem_append_left _ (List.mem_append_right _ h)
      · exact List.mem_append_right _ h)) q)
/-- data in a slot -/
theorem EnvT.getD : ∀ {γ : List T} {σ : Sg} {L : List Addr} {i : Nat} {x : D}, EnvT K I H γ σ L → γ[i]? = some (.d x) → ∃ v, σ[i]? = some (some v) ∧ Is K I v x := fun {γ σ L i x} e h => by
  obtain ⟨v, h1, L1, Li, L2, h2, h3, _⟩ := e.get h (fun z => nomatch z)
  cases h3 with
  | d h3 => exact ⟨v, h1, h3⟩
/-- a slot is set, whatever was there, to a tree whose footprint is apart -/
theorem EnvT.setN : ∀ {γ : List T} {σ : Sg} {L : List Addr} (i : Nat) {L1 : List Addr}, i < γ.length → EnvT K I H γ σ L → Ow K I H v t L1 → (L1 ++ L).Nodup → ∃ L', L'.Nodup ∧ (∀ a ∈ L', a ∈ L1 ++ L) ∧ EnvT K I H (γ.set i t) (σ.set i (some v)) L'
  | _, _, _, i, _, h, .nil, _, _ => by simp at h
  | _, _, _, 0, _, _, .em _ e, p, nd => ⟨_, nd, fun a h => h, .cons p e⟩
  | _, _, _, 0, L1, _, .cons (L1 := M1) (L2 := M2) _ e, p, nd => by
    have nd1 := List.nodup_append.mp nd
    have nd2 := List.nodup_append.mp nd1.2.1
    exact ⟨L1 ++ M2, List.nodup_append.mpr ⟨nd1.1, nd2.2.1, fun a h b hb => nd1.2.2 a h b (by simp [hb])⟩, fun a h => by simp at h ⊢; rcases h with h | h; exact .inl h; exact .inr (.inr h), .cons p e⟩
  | _, _, _, i + 1, _, h, .em x e, p, nd => let ⟨L', n, s, r⟩ := EnvT.setN i (by simpa using h) e p nd; ⟨L', n, s, .em x r⟩
  | _, _, _, i + 1, L1, h, .cons (L1 := M1) (L2 := M2) q e, p, nd => by
    have nd1 := List.nodup_append.mp nd
    have nd2 := List.nodup_append.mp nd1.2.1
    have ndx : (L1 ++ M2).Nodup := List.nodup_append.mpr ⟨nd1.1, nd2.2.1, fun a h b hb => nd1.2.2 a h b (by simp [hb])⟩
    obtain ⟨L', n, s, r⟩ := EnvT.setN i (by simpa using h) e p ndx
    refine ⟨M1 ++ L', List.nodup_append.mpr ⟨nd2.1, n, fun a h b hb e => ?_⟩, fun a h => ?_, .cons q r⟩
    · subst e
      rcases List.mem_append.mp (s a hb) with q | q
      · exact nd1.2.2 a q a (by simp [h]) rfl
      · exact nd2.2.2 a h a q rfl
    · rcases List.mem_append.mp h with h | h
      · simp [h]
      · have := s a h; simp at this ⊢; rcases this with q | q; exact .inl q; exact .inr (.inr q)
theorem EnvT.setE (y : Option V) : ∀ {γ : List T} {σ : Sg} {L : List Addr} (i : Nat), EnvT K I H γ σ L → ∃ L', L'.Sublist L ∧ EnvT K I H (γ.set i .em) (σ.set i y) L'
  | _, _, _, _, .nil => ⟨[], List.Sublist.refl _, .nil⟩
  | _, _, _, 0, .em _ e => ⟨_, List.Sublist.refl _, .em _ e⟩
  | _, _, _, 0, .cons (L1 := L1) _ e => ⟨_, List.sublist_append_right _ _, .em _ e⟩
  | _, _, _, i + 1, .em x e => let ⟨L', s, r⟩ := EnvT.setE y i e; ⟨L', s, .em x r⟩
  | _, _, _, i + 1, .cons (L1 := L1) p e => let ⟨L', s, r⟩ := EnvT.setE y i e; ⟨L1 ++ L', List.Sublist.append_left s _, .cons p r⟩
theorem WS.setE (w : WS K γ σ I H L) (y : Option V) (i : Nat) : ∃ L', WS K (γ.set i .em) (σ.set i y) I H L' ∧ Step I H L I H L' := by
  obtain ⟨L', s, e⟩ := w.env.setE y i
  exact ⟨L', ⟨e, w.nd.sublist s, fun a h => w.fr a (s.subset h), w.sub⟩, Step.sublist s⟩
/-- from the front into a slot -/
theorem WS.setN {i : Nat} (w : WS K (t :: γ) (some v :: σ) I H L) (hi : i < γ.length) (ht : t ≠ .em) : ∃ L', WS K (γ.set i t) (σ.set i (some v)) I H L' ∧ Step I H L I H L' := by
  have e := w.env
  cases e with
  | em => exact absurd rfl ht
  | @cons _ _ _ _ L1 L2 p e =>
    obtain ⟨L', n, s, r⟩ := EnvT.setN i hi e p w.nd
    exact ⟨L', ⟨r, n, fun a h => w.fr a (s a h), w.sub⟩, ⟨Ex.refl I, fun _ _ h _ => h, fun a h => .inl (s a h), fun _ _ h => .inl h⟩⟩
theorem WS.front (w : WS K γ σ I H L) (h : Is K I v x) : WS K (.d x :: γ) (some v :: σ) I H L := ⟨.cons (L1 := []) (.d h) w.env, w.nd, w.fr, w.sub⟩
theorem WS.tail (w : WS K (t :: γ) (y :: σ) I H L) : ∃ L', WS K γ σ I H L' ∧ Step I H L I H L' ∧ (∀ x, t = .d x → L' = L ∧ ∃ v, y = some v ∧ Is K I v x) := by
  have e := w.env
  cases e with
  | em _ e => exact ⟨L, ⟨e, w.nd, w.fr, w.sub⟩, Step.refl _ _ _, fun x h => nomatch h⟩
  | @cons _ _ _ v L1 L2 p e =>
    have nd := List.nodup_append.mp w.nd
    refine ⟨L2, ⟨e, nd.2.1, fun a h => w.fr a (by simp [h]), w.sub⟩, Step.sublist (List.sublist_append_right _ _), fun x h => ?_⟩
    subst h
    cases p with
    | d p => exact ⟨rfl, v, rfl, p⟩
/-- the front freezes -/
theorem WS.frz (w : WS K (t :: γ) (some v :: σ) I H L) (h : t.toD = some x) : ∃ I' L', WS K γ σ I' H L' ∧ Step I H L I' H L' ∧ Is K I' v x := by
  have e := w.env
  cases e with
  | em => simp [T.toD] at h
  | @cons _ _ _ _ L1 L2 p e =>
    have nd := List.nodup_append.mp w.nd
    obtain ⟨I', f, q⟩ := p.frz h nd.1 (fun a ha => w.fr a (by simp [ha])) w.sub
    refine ⟨I', L2, ⟨e.keep f.i fun _ _ => rfl, nd.2.1, fun a ha => f.out (w.fr a (by simp [ha])) fun z => nd.2.2 a z a ha rfl, f.s⟩, ⟨f.i, fun _ _ h _ => h, fun a ha => .inl (by simp [ha]), fun a o ha => (f.n a o ha).elim .inl fun z => .inr (.inl (by simp [z]))⟩, q⟩
/-- what stands beside a held part -/
theorem WS.hold {y : Option V} (w : WS K (t :: γ) (y :: σ) I H L) : ∃ L1 L2, L = L1 ++ L2 ∧ WS K γ σ I H L2 ∧ ∀ {γ2 : List T} {σ2 : Sg} {I' H' : Hp} {L2' : List Addr}, WS K γ2 σ2 I' H' L2' → Step I H L2 I' H' L2' →
    WS K (t :: γ2) (y :: σ2) I' H' (L1 ++ L2') ∧ Step I H (L1 ++ L2) I' H' (L1 ++ L2') := by
  have e := w.env
  cases e with
  | em _ e => exact ⟨[], L, rfl, ⟨e, w.nd, w.fr, w.sub⟩, fun w' s => ⟨⟨.em _ w'.env, w'.nd, w'.fr, w'.sub⟩, s⟩⟩
  | @cons _ _ _ v L1 L2 p e =>
    have nd := List.nodup_append.mp w.nd
    refine ⟨L1, L2, rfl, ⟨e, nd.2.1, fun a h => w.fr a (by simp [h]), w.sub⟩, fun {γ2 σ2 I' H' L2'} w' s => ?_⟩
    have lv : ∀ a ∈ L1, H a ≠ none := fun a h => p.live a h
    have out : ∀ a ∈ L1, a ∉ L2 := fun a h q => nd.2.2 a h a q rfl
    have kp : ∀ a ∈ L1, H' a = H a := fun a h => by
      cases e : H a with
      | none => exact absurd e (lv a h)
      | some o => exact s.keep a o e (out a h)
    have ap : ∀ a ∈ L1, a ∉ L2' := fun a h q => (s.l a q).elim (out a h) (lv a h)
    refine ⟨⟨.cons (p.keep s.i kp) w'.env, List.nodup_append.mpr ⟨nd.1, w'.nd, fun a h b hb e => ap a h (e ▸ hb)⟩, fun a h => ?_, w'.sub⟩, s.frame L1⟩
    rcases List.mem_append.mp h with h | h
    · cases e : I' a with
      | none => rfl
      | some o =>
        rcases s.n a o e with q | q | q
        · rw [w.fr a (by simp [h])] at q; cases q
        · exact absurd q (out a h)
        · exact absurd q (lv a h)
    · exact w'.fr a h

/-! ### places -/
def T.kids : T → List T
  | .dic _ ts => ts
  | .obj _ _ ts => ts
  | _ => []
def T.setKid (t : T) (i : Nat) (u : T) : T := match t with
  | .dic ks ts => .dic ks (ts.set i u)
  | .obj C ns ts => .obj C ns (ts.set i u)
  | t => t
def T.at_ (t : T) : Pth → Option T
  | [] => some t
  | i :: p => match t.kids[i]? with
    | some u => u.at_ p
    | none => none
def T.put (t : T) : Pth → T → T
  | [], u => u
  | i :: p, u => match t.kids[i]? with
    | some k => t.setKid i (k.put p u)
    | none => t
theorem OwA.get : ∀ {ts : List T} {vs : List V} {L : List Addr} {i : Nat} {t : T}, OwA K I H vs ts L → ts[i]? = some t → ∃ v, vs[i]? = some v ∧ ∃ L1 Li L2, L = L1 ++ (Li ++ L2) ∧ Ow K I H v t Li ∧
    ∀ (I' H' : Hp) (t' : T) (Li' : List Addr), Ex I I' → (∀ a, a ∈ L1 ++ L2 → H' a = H a) → Ow K I' H' v t' Li' → OwA K I' H' vs (ts.set i t') (L1 ++ (Li' ++ L2))
  | [], _, _, _, _, _, h => by simp at h
  | _ :: ts, _, _, 0, _, q, h => by
    cases q with
    | @cons v vs _ _ Li L2 p e =>
      simp at h
      subst h
      exact ⟨v, rfl, [], Li, L2, rfl, p, fun I' H' t' Li' ei k q => (OwA.cons (L1 := Li') (L2 := L2) q (e.keep ei fun a h => k a (by simpa using h)) : OwA K I' H' _ _ (Li' ++ L2))⟩
  | _ :: ts, _, _, i + 1, t, q, h => by
    cases q with
    | @cons v0 vs _ _ L0 _ p e =>
      obtain ⟨v, h1, L1, Li, L2, h2, h3, h4⟩ := OwA.get (i := i) (t := t) e (by simpa using h)
      refine ⟨v, by simpa using h1, L0 ++ L1, Li, L2, by rw [h2, List.append_assoc], h3, fun I' H' t' Li' ei k q => ?_⟩
      rw [List.append_assoc]
      exact .cons (p.keep ei fun a h => k a (List.mem_append_left _ (List.mem_append_left _ h))) (h4 I' H' t' Li' ei (fun a h => k a (by
        rcases List.mem_append.mp h with h | h
        · exact List.mem_append_left _ (List.mem_append_right _ h)
        · exact List.mem_append_right _ h)) q)
/-- the value at a path below a value -/
inductive At (H : Hp) : V → T → Pth → V → Prop
  | nil {v : V} {t : T} : At H v t [] v
  | dic {a : Addr} {kvs : List (Key × V)} {ks : List Key} {ts : List T} {i : Nat} {v w : V} {t : T} {p : Pth} : H a = some (.dK kvs) → (kvs.map (·.2))[i]? = some v → ts[i]? = some t → At H v t p w → At H (.ref a) (.dic ks ts) (i :: p) w
  | obj {a dx C : Addr} {fs : List (Str × V)} {ns : List Str} {ts : List T} {i : Nat} {v w : V} {t : T} {p : Pth} : H a = some (.ins C dx fs) → (fs.map (·.2))[i]? = some v → ts[i]? = some t → At H v t p w → At H (.ref a) (.obj C ns ts) (i :: p) w
theorem Ow.at_ : ∀ {p : Pth} {t u : T} {v : V} {L : List Addr}, Ow K I H v t L → t.at_ p = some u → ∃ w, At H v t p w ∧ ∃ L1 Li L2, L = L1 ++ (Li ++ L2) ∧ Ow K I H w u Li ∧
    ∀ (I' H' : Hp) (u' : T) (Li' : List Addr), Ex I I' → (∀ a, a ∈ L1 ++ L2 → H' a = H a) → Ow K I' H' w u' Li' → Ow K I' H' v (t.put p u') (L1 ++ (Li' ++ L2))
  | [], t, u, v, L, h, e => by
    cases e
    exact ⟨v, .nil, [], L, [], by simp, h, fun I' H' u' Li' _ _ q => by simpa [T.put] using q⟩
  | i :: p, t, u, v, L, h, e => by
    rw [T.at_] at e
    cases ek : t.kids[i]? with
    | none => simp [ek] at e
    | some k =>
      simp [ek] at e
      have hp : ∀ u', t.put (i :: p) u' = t.setKid i (k.put p u') := fun u' => by rw [T.put, ek]
      cases h with
      | em => simp [T.kids] at ek
      | d => simp [T.kids] at ek
      | lst => simp [T.kids] at ek
      | @dic a kvs ks ts L h1 h2 h3 =>
        have ek' : ts[i]? = some k := ek
        obtain ⟨v1, g1, L1, Li, L2, rfl, g2, g3⟩ := h3.get ek'
        obtain ⟨w, g4, M1, Mi, M2, rfl, g5, g6⟩ := Ow.at_ (p := p) g2 e
        refine ⟨w, .dic h1 g1 ek' g4, a :: (L1 ++ M1), Mi, M2 ++ L2, by simp, g5, fun I' H' u' Li' ei kp q => ?_⟩
        rw [hp]
        have g7 := g6 I' H' u' Li' ei (fun b hb => kp b (by rcases List.mem_append.mp hb with hb | hb <;> simp [hb])) q
        have g8 := g3 I' H' (k.put p u') _ ei (fun b hb => kp b (by rcases List.mem_append.mp hb with hb | hb <;> simp [hb])) g7
        have := Ow.dic (ks := ks) ((kp a (by simp)).trans h1) h2 g8
        simpa [T.setKid] using this
      | @obj a dx fs C ns ts L h0 h1 h2 h3 h4 =>
        have ek' : ts[i]? = some k := ek
        obtain ⟨v1, g1, L1, Li, L2, rfl, g2, g3⟩ := h4.get ek'
        obtain ⟨w, g4, M1, Mi, M2, rfl, g5, g6⟩ := Ow.at_ (p := p) g2 e
        refine ⟨w, .obj h1 g1 ek' g4, a :: dx :: (L1 ++ M1), Mi, M2 ++ L2, by simp, g5, fun I' H' u' Li' ei kp q => ?_⟩
        rw [hp]
        have g7 := g6 I' H' u' Li' ei (fun b hb => kp b (by rcases List.mem_append.mp hb with hb | hb <;> simp [hb])) q
        have g8 := g3 I' H' (k.put p u') _ ei (fun b hb => kp b (by rcases List.mem_append.mp hb with hb | hb <;> simp [hb])) g7
        have := Ow.obj h0 ((kp a (by simp)).trans h1) ((kp dx (by simp)).trans h2) h3 g8
        simpa [T.setKid] using this
/-- what is at a place: slot, path -/
def gAt (γ : List T) (i : Nat) (p : Pth) : Option T := match γ[i]? with
  | some t => t.at_ p
  | none => none
def gPut (γ : List T) (i : Nat) (p : Pth) (u : T) : List T := match γ[i]? with
  | some t => γ.set i (t.put p u)
  | none => γ
theorem set_same {α : Type} : ∀ {l : List α} {i : Nat} {x : α}, l[i]? = some x → l.set i x = l := fun h => set_self h
/-- the tree at a place, its step -/
theorem WS.place {i : Nat} {p : Pth} {u : T} (w : WS K γ σ I H L) (h : gAt γ i p = some u) (hu : u ≠ .em) : ∃ v0 v t, σ[i]? = some (some v0) ∧ γ[i]? = some t ∧ At H v0 t p v ∧ ∃ Li, Ow K I H v u Li ∧ Li.Nodup ∧ (∀ a ∈ Li, I a = none) ∧
    ∀ (I' H' : Hp) (u' : T) (Li' : List Addr), Step I H Li I' H' Li' → Li'.Nodup → (∀ a ∈ Li', I' a = none) → Ex I' H' → Ow K I' H' v u' Li' → ∃ L', WS K (gPut γ i p u') σ I' H' L' ∧ Step I H L I' H' L' := by
  unfold gAt at h
  cases e : γ[i]? with
  | none => simp [e] at h
  | some t =>
    simp [e] at h
    have ht : t ≠ .em := fun z => by
      subst z
      cases p with
      | nil => exact hu (by simpa [T.at_] using h.symm)
      | cons j p => simp [T.at_, T.kids] at h
    obtain ⟨v0, h1, L1, Lj, L2, rfl, h2, h3⟩ := w.env.get e ht
    obtain ⟨v, h4, M1, Li, M2, rfl, h5, h6⟩ := h2.at_ h
    have nd := w.nd
    have nd2 := List.nodup_append.mp nd
    have nd3 := List.nodup_append.mp nd2.2.1
    have nd4 := List.nodup_append.mp nd3.1
    have nd5 := List.nodup_append.mp nd4.2.1
    refine ⟨v0, v, t, h1, rfl, h4, Li, h5, nd5.1, fun a ha => w.fr a (by simp [ha]), fun I' H' u' Li' st nd' fr' sub' q => ?_⟩
    have out : ∀ a, a ∈ L1 ++ (M1 ++ (M2 ++ L2)) → a ∉ Li := fun a ha z => by
      simp at ha
      rcases ha with ha | ha | ha | ha
      · exact nd2.2.2 a ha a (by simp [z]) rfl
      · exact nd4.2.2 a ha a (by simp [z]) rfl
      · exact nd5.2.2 a z a ha rfl
      · exact nd3.2.2 a (by simp [z]) a ha rfl
    have lv : ∀ a, a ∈ L1 ++ (M1 ++ (M2 ++ L2)) → H a ≠ none := fun a ha => w.live a (by
      simp at ha ⊢
      rcases ha with ha | ha | ha | ha
      · exact .inl ha
      · exact .inr (.inl ha)
      · exact .inr (.inr (.inr (.inl ha)))
      · exact .inr (.inr (.inr (.inr ha))))
    have kp : ∀ a, a ∈ L1 ++ (M1 ++ (M2 ++ L2)) → H' a = H a := fun a ha => by
      cases e : H a with
      | none => exact absurd e (lv a ha)
      | some o => exact st.keep a o e (out a ha)
    have apart : ∀ a ∈ Li', a ∉ L1 ++ (M1 ++ (M2 ++ L2)) := fun a ha z => (st.l a ha).elim (out a z) (lv a z)
    have g1 := h6 I' H' u' Li' st.i (fun a ha => kp a (by simp at ha ⊢; rcases ha with ha | ha; exact .inr (.inl ha); exact .inr (.inr (.inl ha)))) q
    have g2 := h3 I' H' (t.put p u') v0 _ st.i (fun a ha => kp a (by simp at ha ⊢; rcases ha with ha | ha; exact .inl ha; exact .inr (.inr (.inr ha)))) g1
    have eσ : σ.set i (some v0) = σ := set_same h1
    rw [eσ] at g2
    refine ⟨L1 ++ ((M1 ++ (Li' ++ M2)) ++ L2), ⟨by unfold gPut; rw [e]; exact g2, ?_, fun a ha => ?_, sub'⟩, ⟨st.i, fun a o ea hl => st.keep a o ea fun z => hl (by simp [z]), fun a ha => ?_, fun a o ea => ?_⟩⟩
    · have pm : (L1 ++ ((M1 ++ (Li' ++ M2)) ++ L2)).Perm (Li' ++ (L1 ++ (M1 ++ (M2 ++ L2)))) := by
        have q1 : L1 ++ ((M1 ++ (Li' ++ M2)) ++ L2) = (L1 ++ M1) ++ (Li' ++ (M2 ++ L2)) := by simp
        have q2 : Li' ++ (L1 ++ (M1 ++ (M2 ++ L2))) = Li' ++ ((L1 ++ M1) ++ (M2 ++ L2)) := by simp
        rw [q1, q2]
        exact List.perm_append_comm_assoc _ _ _
      have pm0 : (L1 ++ ((M1 ++ (Li ++ M2)) ++ L2)).Perm (Li ++ (L1 ++ (M1 ++ (M2 ++ L2)))) := by
        have q1 : L1 ++ ((M1 ++ (Li ++ M2)) ++ L2) = (L1 ++ M1) ++ (Li ++ (M2 ++ L2)) := by simp
        have q2 : Li ++ (L1 ++ (M1 ++ (M2 ++ L2))) = Li ++ ((L1 ++ M1) ++ (M2 ++ L2)) := by simp
        rw [q1, q2]
        exact List.perm_append_comm_assoc _ _ _
      have ndr := (List.nodup_append.mp (pm0.nodup_iff.mp nd)).2.1
      exact pm.nodup_iff.mpr (List.nodup_append.mpr ⟨nd', ndr, fun a ha b hb e => apart a ha (e ▸ hb)⟩)
    · by_cases hL : a ∈ Li'
      · exact fr' a hL
      · have ha' : a ∈ L1 ++ (M1 ++ (M2 ++ L2)) := by
          simp at ha ⊢
          rcases ha with ha | ha | ha | ha | ha
          · exact .inl ha
          · exact .inr (.inl ha)
          · exact absurd ha hL
          · exact .inr (.inr (.inl ha))
          · exact .inr (.inr (.inr ha))
        cases e : I' a with
        | none => rfl
        | some o =>
          rcases st.n a o e with q | q | q
          · rw [w.fr a (by
              simp at ha' ⊢
              rcases ha' with ha | ha | ha | ha
              · exact .inl ha
              · exact .inr (.inl ha)
              · exact .inr (.inr (.inr (.inl ha)))
              · exact .inr (.inr (.inr (.inr ha))))] at q; cases q
          · exact absurd q (out a ha')
          · exact absurd q (lv a ha')
    · simp at ha
      rcases ha with ha | ha | ha | ha | ha
      · exact .inl (by simp [ha])
      · exact .inl (by simp [ha])
      · exact (st.l a ha).elim (fun z => .inl (by simp [z])) .inr
      · exact .inl (by simp [ha])
      · exact .inl (by simp [ha])
    · rcases st.n a o ea with q | q | q
      · exact .inl q
      · exact .inr (.inl (by simp [q]))
      · exact .inr (.inr q)
end
end FD

/-! FS1: pure readings: an expression and the function of the slots that it is. -/
namespace FD
open PySem PySem.Spec PyProof.Rows L2

/-- read at the top through the heap -/
inductive Tp (K : PySem.W.Frag) (I H : Hp) : V → D → Prop
  | is {v : V} {x : D} : Is K I v x → Tp K I H v x
  | lst {a : Addr} {xs : List V} {ds : List D} : H a = some (.lst xs) → IsA K I xs ds → Tp K I H (.ref a) (.lst ds)
  | dic {a : Addr} {kvs : List (Key × V)} {ks : List Key} {ds : List D} : H a = some (.dK kvs) → ks = kvs.map (·.1) → IsA K I (kvs.map (·.2)) ds → Tp K I H (.ref a) (.dic ks ds)
section
variable {K : PySem.W.Frag} {I I' H H' : Hp} {v : V} {x : D}
theorem Tp.new (n : New I H I' H') (h : Tp K I H v x) : Tp K I' H' v x := by
  cases h with
  | is h => exact .is (h.mono n.i)
  | lst h1 h2 => exact .lst (n.h _ _ h1) (h2.mono n.i)
  | dic h1 h2 h3 => exact .dic (n.h _ _ h1) h2 (h3.mono n.i)
theorem Tp.l {ds : List D} (s : Ex I H) (h : Tp K I H v (.lst ds)) : ∃ a xs, v = .ref a ∧ SqL K H a xs ∧ IsA K I xs ds := by
  cases h with
  | is h => cases h with
    | lst h1 h2 => exact ⟨_, _, rfl, s.l h1, h2⟩
  | lst h1 h2 => exact ⟨_, _, rfl, sq_of h1, h2⟩
theorem Tp.t {ds : List D} (s : Ex I H) (h : Tp K I H v (.tup ds)) : ∃ a xs, v = .ref a ∧ SqT K H a xs ∧ IsA K I xs ds := by
  cases h with
  | is h => cases h with
    | tup h1 h2 => exact ⟨_, _, rfl, s.t h1, h2⟩
theorem Tp.k {ks : List Key} {ds : List D} (s : Ex I H) (h : Tp K I H v (.dic ks ds)) : ∃ a kvs, v = .ref a ∧ Rd H a (.dK kvs) ∧ ks = kvs.map (·.1) ∧ IsA K I (kvs.map (·.2)) ds := by
  cases h with
  | is h => cases h with
    | dic h1 h2 h3 => exact ⟨_, _, rfl, s.rd h1, h2, h3⟩
  | dic h1 h2 h3 => exact ⟨_, _, rfl, .inl h1, h2, h3⟩
theorem Tp.n (h : Tp K I H v .non) : v = .non := by
  cases h with
  | is h => cases h; rfl
theorem Tp.b {b : Bool} (h : Tp K I H v (.bl b)) : v = .bl b := by
  cases h with
  | is h => cases h; rfl
theorem Tp.n_ {i : Int} (h : Tp K I H v (.int i)) : v = .int i := by
  cases h with
  | is h => cases h; rfl
theorem Tp.s {i : Str} (h : Tp K I H v (.str i)) : v = .str i := by
  cases h with
  | is h => cases h; rfl
/-- the top frozen for a while -/
theorem Tp.frz (s : Ex I H) (h : Tp K I H v x) : ∃ I', Ex I I' ∧ Ex I' H ∧ Is K I' v x := by
  have key : ∀ {a : Addr} {o : HO}, H a = some o → ∃ I', Ex I I' ∧ Ex I' H ∧ I' a = some o := fun {a o} ha => by
    cases e : I a with
    | some u =>
      have := s a u e
      rw [ha] at this
      cases this
      exact ⟨I, Ex.refl I, s, e⟩
    | none => exact ⟨upd I a o, Ex.new e, fun b u q => by
        by_cases hb : b = a
        · subst hb; rw [upd_same] at q; cases q; exact ha
        · rw [upd_ne hb] at q; exact s b u q, upd_same⟩
  cases h with
  | is h => exact ⟨I, Ex.refl I, s, h⟩
  | lst h1 h2 =>
    obtain ⟨I', e1, e2, e3⟩ := key h1
    exact ⟨I', e1, e2, .lst (sq_of e3) (h2.mono e1)⟩
  | dic h1 h2 h3 =>
    obtain ⟨I', e1, e2, e3⟩ := key h1
    exact ⟨I', e1, e2, .dic (.inl e3) h2 (h3.mono e1)⟩
/-- operations on values read at the top -/
def OpT (K : PySem.W.Frag) (r : R2) (x y z : D) : Prop := ∀ I H v w, Ex I H → Tp K I H v x → Tp K I H w y → PureR K I H (r v w) z
def CallT (K : PySem.W.Frag) (r : V → Hp → VK → Prop) (x z : D) : Prop := ∀ I H v, Ex I H → Tp K I H v x → PureR K I H (r v) z
theorem New.keepI (n : New I H I' H') : New I H I H' := ⟨Ex.refl I, n.h, fun _ _ h => .inl h⟩
theorem Tp.mono (e : Ex I I') (h : Tp K I H v x) : Tp K I' H v x := by
  cases h with
  | is h => exact .is (h.mono e)
  | lst h1 h2 => exact .lst h1 (h2.mono e)
  | dic h1 h2 h3 => exact .dic h1 h2 (h3.mono e)
theorem OpD.t {r : R2} {y z : D} (h : OpD K r x y z) (hz : z.scalar = true) : OpT K r x y z := fun I H v w s hv hw Q q => by
  obtain ⟨I1, e1, s1, hv1⟩ := hv.frz s
  obtain ⟨I2, e2, s2, hw2⟩ := (hw.mono e1).frz s1
  exact h I2 H v w s2 (hv1.mono e2) hw2 Q fun u I' H' n s' hu => q u I H' ⟨Ex.refl I, n.h, fun _ _ h => .inl h⟩ (s.trans n.h) (hu.scalar hz)
theorem UnD.t {r : V → Hp → VK → Prop} {z : D} (h : UnD K r x z) (hz : z.scalar = true) : CallT K r x z := fun I H v s hv Q q => by
  obtain ⟨I1, e1, s1, hv1⟩ := hv.frz s
  exact h I1 H v s1 hv1 Q fun u I' H' n s' hu => q u I H' ⟨Ex.refl I, n.h, fun _ _ h => .inl h⟩ (s.trans n.h) (hu.scalar hz)
theorem CallD.t {r : List V → Hp → VK → Prop} {z : D} (h : CallD K r [x] z) (hz : z.scalar = true) : CallT K (fun v => r [v]) x z := fun I H v s hv Q q => by
  obtain ⟨I1, e1, s1, hv1⟩ := hv.frz s
  exact h I1 H [v] s1 (.cons hv1 .nil) Q fun u I' H' n s' hu => q u I H' ⟨Ex.refl I, n.h, fun _ _ h => .inl h⟩ (s.trans n.h) (hu.scalar hz)
end

/-! ### the judgements -/
def PR (K : PySem.W.Frag) (I H : Hp) (z : D) (Q : VK) : Prop := ∀ v I' H', New I H I' H' → Ex I' H' → Is K I' v z → Q v H'
def Pu (K : PySem.W.Frag) (te : TE) (f : List T → Option D) : Prop := ∀ γ x, f γ = some x → ∀ σ I H L, WS K γ σ I H L → ∀ Q : VK, (∀ v I' H', New I H I' H' → Ex I' H' → Is K I' v x → Q v H') → te σ H Q
def Cu (K : PySem.W.Frag) (te : TE) (f : List T → Option D) : Prop := ∀ γ x, f γ = some x → ∀ σ I H L, WS K γ σ I H L → ∀ Q : VK, (∀ v I' H', New I H I' H' → Ex I' H' → Tp K I' H' v x → Q v H') → te σ H Q
def PuT (K : PySem.W.Frag) (tt : TT) (f : List T → Option Bool) : Prop := ∀ γ b, f γ = some b → ∀ σ I H L, WS K γ σ I H L → ∀ Q : Bool → Hp → Prop, (∀ I' H', New I H I' H' → Ex I' H' → Q b H') → tt σ H Q
def PuA (K : PySem.W.Frag) (ta : TA) (f : List T → Option (List D)) : Prop := ∀ γ xs, f γ = some xs → ∀ σ I H L, WS K γ σ I H L → ∀ Q : List V → Hp → Prop, (∀ vs I' H', New I H I' H' → Ex I' H' → IsA K I' vs xs → Q vs H') → ta σ H Q
def PuO (K : PySem.W.Frag) (to : TO) (f : List T → Option (Option Int)) : Prop := ∀ γ o, f γ = some o → ∀ σ I H L, WS K γ σ I H L → ∀ Q : Option Int → Hp → Prop, (∀ I' H', New I H I' H' → Ex I' H' → Q o H') → to σ H Q
/-- a place: slot, path -/
def Lo (K : PySem.W.Frag) (te : TE) (f : List T → Option (Nat × Pth)) : Prop := ∀ γ i p, f γ = some (i, p) → ∀ σ I H L, WS K γ σ I H L → ∀ Q : VK, (∀ v v0 t, σ[i]? = some (some v0) → γ[i]? = some t → At H v0 t p v → Q v H) → te σ H Q
section
variable {K : PySem.W.Frag} {ta tb tc te to tl th : TE} {t u : TT} {f g h : List T → Option D} {p q : List T → Option Bool} {r : R2} {I I' H H' : Hp} {γ : List T} {σ : Sg} {L : List Addr}
theorem Pu.c (h : Pu K te f) : Cu K te f := fun γ x e σ I H L w Q k => h γ x e σ I H L w Q fun v I' H' n s hv => k v I' H' n s (.is hv)
/-! slots, constants -/
def pVar (i : Nat) : List T → Option D := fun γ => match γ[i]? with
  | some (.d x) => some x
  | _ => none
theorem pu_var (i : Nat) : Pu K (tVar i) (pVar i) := fun γ x e σ I H L w Q k => by
  unfold pVar at e
  split at e
  · rename_i y hy
    cases e
    obtain ⟨v, h1, h2⟩ := w.env.getD hy
    exact ⟨v, h1, k v I H (New.refl I H) w.sub h2⟩
  · cases e
def T.peek : T → Option D
  | .d x => some x
  | .lst ds => some (.lst ds)
  | .dic ks ts => (T.toDs ts).map (.dic ks)
  | _ => none
/-- children that are data -/
theorem isA_toDs : ∀ {ts : List T} {vs : List V} {L : List Addr} {xs : List D}, OwA K I H vs ts L → T.toDs ts = some xs → (∀ t ∈ ts, ∃ x, t = .d x) → IsA K I vs xs
  | [], _, _, _, h, e, _ => by
    simp [T.toDs] at e
    subst e
    cases h
    exact .nil
  | t :: ts, _, _, _, h, e, a => by
    obtain ⟨x, rfl⟩ := a t (by simp)
    rw [T.toDs] at e
    cases e2 : T.toDs ts with
    | none => simp [T.toD, e2] at e
    | some xs =>
      simp [T.toD, e2] at e
      subst e
      cases h with
      | cons h1 h2 =>
        cases h1 with
        | d h1 => exact .cons h1 (isA_toDs h2 e2 fun t ht => a t (by simp [ht]))
def allD : List T → Option (List D)
  | [] => some []
  | .d x :: ts => (allD ts).map (x :: ·)
  | _ :: _ => none
theorem isA_allD : ∀ {ts : List T} {vs : List V} {L : List Addr} {xs : List D}, OwA K I H vs ts L → allD ts = some xs → IsA K I vs xs
  | [], _, _, _, h, e => by
    simp [allD] at e
    subst e
    cases h
    exact .nil
  | t :: ts, _, _, _, h, e => by
    cases t with
    | d x =>
      rw [allD] at e
      cases e2 : allD ts with
      | none => simp [e2] at e
      | some xs =>
        simp [e2] at e
        subst e
        cases h with
        | cons h1 h2 =>
          cases h1 with
          | d h1 => exact .cons h1 (isA_allD h2 e2)
    | em => simp [allD] at e
    | lst => simp [allD] at e
    | dic => simp [allD] at e
    | obj => simp [allD] at e
theorem allD_map (xs : List D) : allD (xs.map .d) = some xs := by
  induction xs with
  | nil => rfl
  | cons x xs ih => simp [allD, ih]
def T.top : T → Option D
  | .d x => some x
  | .lst ds => some (.lst ds)
  | .dic ks ts => (allD ts).map (.dic ks)
  | _ => none
theorem Ow.top {t : T} {v : V} {x : D} {L : List Addr} (h : Ow K I H v t L) (e : t.top = some x) : Tp K I H v x := by
  cases h with
  | em => simp [T.top] at e
  | d h => simp [T.top] at e; subst e; exact .is h
  | lst h1 h2 => simp [T.top] at e; subst e; exact .lst h1 h2
  | @dic a kvs ks ts L h1 h2 h3 =>
    simp only [T.top] at e
    cases e2 : allD ts with
    | none => simp [e2] at e
    | some xs =>
      simp [e2] at e
      subst e
      exact .dic h1 h2 (isA_allD h3 e2)
  | obj => simp [T.top] at e
def cVar (i : Nat) : List T → Option D := fun γ => (γ[i]?).bind T.top
theorem cu_var (i : Nat) : Cu K (tVar i) (cVar i) := fun γ x e σ I H L w Q k => by
  unfold cVar at e
  cases e1 : γ[i]? with
  | none => simp [e1] at e
  | some t =>
    simp [e1] at e
    have ht : t ≠ .em := fun z => by subst z; simp [T.top] at e
    obtain ⟨v, h1, L1, Li, L2, rfl, h2, _⟩ := w.env.get e1 ht
    exact ⟨v, h1, k v I H (New.refl I H) w.sub (h2.top e)⟩
def pC (x : D) : List T → Option D := fun _ => some x
theorem pu_c {v : V} {x : D} (h : ∀ I, Is K I v x) : Pu K (tC v) (pC x) := fun γ y e σ I H L w Q k => by
  cases e
  exact k v I H (New.refl I H) w.sub (h I)
theorem pu_int {i : Int} : Pu K (tC (.int i)) (pC (.int i)) := pu_c fun _ => .int i
theorem pu_str {s : Str} : Pu K (tC (.str s)) (pC (.str s)) := pu_c fun _ => .str s
theorem pu_bl {b : Bool} : Pu K (tC (.bl b)) (pC (.bl b)) := pu_c fun _ => .bl b
theorem pu_non : Pu K (tC .non) (pC .non) := pu_c fun _ => .non
theorem pu_raw {v : V} : Pu K (tC v) (pC (.raw v)) := pu_c fun _ => .raw v
/-! operators -/
def pOp (o : D → D → Option D) (f g : List T → Option D) : List T → Option D := fun γ => (f γ).bind fun x => (g γ).bind fun y => o x y
theorem pu_op {o : D → D → Option D} (hf : Cu K ta f) (hg : Cu K tb g) (ho : ∀ x y z, o x y = some z → OpT K r x y z) : Pu K (tOp r ta tb) (pOp o f g) := fun γ z e σ I H L w Q k => by
  unfold pOp at e
  obtain ⟨x, e1, e⟩ := Option.bind_eq_some_iff.mp e
  obtain ⟨y, e2, e3⟩ := Option.bind_eq_some_iff.mp e
  exact hf γ x e1 σ I H L w _ fun v I1 H1 n1 s1 hv => hg γ y e2 σ I1 H1 L (w.new n1 s1) _ fun u I2 H2 n2 s2 hu =>
    ho x y z e3 I2 H2 v u s2 (hv.new n2) hu Q fun o I3 H3 n3 s3 ho => k o I3 H3 ((n1.trans n2).trans n3) s3 ho
def pUn (o : D → Option D) (f : List T → Option D) : List T → Option D := fun γ => (f γ).bind o
theorem pu_un {o : D → Option D} {r : V → Hp → VK → Prop} (hf : Cu K ta f) (ho : ∀ x z, o x = some z → CallT K r x z) : Pu K (tUn r ta) (pUn o f) := fun γ z e σ I H L w Q k => by
  unfold pUn at e
  obtain ⟨x, e1, e3⟩ := Option.bind_eq_some_iff.mp e
  exact hf γ x e1 σ I H L w _ fun v I1 H1 n1 s1 hv => ho x z e3 I1 H1 v s1 hv Q fun o I3 H3 n3 s3 ho => k o I3 H3 (n1.trans n3) s3 ho
/-- a built-in function of one argument -/
theorem pu_call1 {o : D → Option D} {r : List V → Hp → VK → Prop} (hf : Cu K ta f) (ho : ∀ x z, o x = some z → CallT K (fun v => r [v]) x z) : Pu K (tCB r (tCons ta tNil)) (pUn o f) := fun γ z e σ I H L w Q k => by
  unfold pUn at e
  obtain ⟨x, e1, e3⟩ := Option.bind_eq_some_iff.mp e
  exact hf γ x e1 σ I H L w _ fun v I1 H1 n1 s1 hv => ho x z e3 I1 H1 v s1 hv Q fun o I3 H3 n3 s3 ho => k o I3 H3 (n1.trans n3) s3 ho
/-- of two -/
theorem pu_call2 {o : D → D → Option D} {r : List V → Hp → VK → Prop} (hf : Cu K ta f) (hg : Cu K tb g) (ho : ∀ x y z, o x y = some z → OpT K (fun v w => r [v, w]) x y z) : Pu K (tCB r (tCons ta (tCons tb tNil))) (pOp o f g) := fun γ z e σ I H L w Q k => by
  unfold pOp at e
  obtain ⟨x, e1, e⟩ := Option.bind_eq_some_iff.mp e
  obtain ⟨y, e2, e3⟩ := Option.bind_eq_some_iff.mp e
  exact hf γ x e1 σ I H L w _ fun v I1 H1 n1 s1 hv => hg γ y e2 σ I1 H1 L (w.new n1 s1) _ fun u I2 H2 n2 s2 hu =>
    ho x y z e3 I2 H2 v u s2 (hv.new n2) hu Q fun o I3 H3 n3 s3 ho => k o I3 H3 ((n1.trans n2).trans n3) s3 ho
/-! arguments -/
def pNil : List T → Option (List D) := fun _ => some []
def pCons (f : List T → Option D) (g : List T → Option (List D)) : List T → Option (List D) := fun γ => (f γ).bind fun x => (g γ).map fun xs => x :: xs
theorem pa_nil_ : PuA K tNil pNil := fun γ xs e σ I H L w Q k => by
  cases e
  exact k [] I H (New.refl I H) w.sub .nil
theorem pa_cons_ {tr : TA} {g : List T → Option (List D)} (hf : Pu K ta f) (hg : PuA K tr g) : PuA K (tCons ta tr) (pCons f g) := fun γ zs e σ I H L w Q k => by
  unfold pCons at e
  obtain ⟨x, e1, e⟩ := Option.bind_eq_some_iff.mp e
  cases e2 : g γ with
  | none => simp [e2] at e
  | some xs =>
    simp [e2] at e
    subst e
    exact hf γ x e1 σ I H L w _ fun v I1 H1 n1 s1 hv => hg γ xs e2 σ I1 H1 L (w.new n1 s1) _ fun vs I2 H2 n2 s2 hvs => k (v :: vs) I2 H2 (n1.trans n2) s2 (.cons (hv.mono n2.i) hvs)
/-- a built-in function of data -/
def pCB (o : List D → Option D) (g : List T → Option (List D)) : List T → Option D := fun γ => (g γ).bind o
theorem pu_cb {o : List D → Option D} {r : List V → Hp → VK → Prop} {tr : TA} {g : List T → Option (List D)} (hg : PuA K tr g) (ho : ∀ xs z, o xs = some z → CallD K r xs z) : Pu K (tCB r tr) (pCB o g) := fun γ z e σ I H L w Q k => by
  unfold pCB at e
  obtain ⟨xs, e1, e2⟩ := Option.bind_eq_some_iff.mp e
  exact hg γ xs e1 σ I H L w _ fun vs I1 H1 n1 s1 hv => ho xs z e2 I1 H1 vs s1 hv Q fun o I3 H3 n3 s3 ho => k o I3 H3 (n1.trans n3) s3 ho
def pTup (g : List T → Option (List D)) : List T → Option D := fun γ => (g γ).bind fun xs => if xs.length ≤ sizeLine then some (.tup xs) else none
theorem pu_tup {tr : TA} {g : List T → Option (List D)} (hg : PuA K tr g) : Pu K (tTup tr) (pTup g) := fun γ z e σ I H L w Q k => by
  unfold pTup at e
  obtain ⟨xs, e1, e2⟩ := Option.bind_eq_some_iff.mp e
  split at e2
  · rename_i hl
    cases e2
    refine hg γ xs e1 σ I H L w _ fun vs I1 H1 n1 s1 hv => ⟨by rw [hv.length]; exact hl, fun p hp => ?_⟩
    obtain ⟨n, s⟩ := alloc (o := .tup vs) s1 hp
    exact k _ _ _ (n1.trans n) s (.tup (st_of upd_same) (hv.mono n.i))
  · cases e2
def pLst (g : List T → Option (List D)) : List T → Option D := fun γ => (g γ).bind fun xs => if xs.length ≤ sizeLine then some (.lst xs) else none
theorem pu_lst {tr : TA} {g : List T → Option (List D)} (hg : PuA K tr g) : Pu K (tLst tr) (pLst g) := fun γ z e σ I H L w Q k => by
  unfold pLst at e
  obtain ⟨xs, e1, e2⟩ := Option.bind_eq_some_iff.mp e
  split at e2
  · rename_i hl
    cases e2
    refine hg γ xs e1 σ I H L w _ fun vs I1 H1 n1 s1 hv => ⟨by rw [hv.length]; exact hl, fun p hp => ?_⟩
    obtain ⟨n, s⟩ := alloc (o := .lst vs) s1 hp
    exact k _ _ _ (n1.trans n) s (.lst (sq_of upd_same) (hv.mono n.i))
  · cases e2
/-! truth -/
def pTest (f : List T → Option D) : List T → Option Bool := fun γ => (f γ).bind fun x => match x with
  | .bl b => some b
  | _ => none
theorem pt_of {f : List T → Option D} {γ : List T} {b : Bool} (e : pTest f γ = some b) : f γ = some (.bl b) := by
  unfold pTest at e
  obtain ⟨x, e1, e2⟩ := Option.bind_eq_some_iff.mp e
  cases x <;> simp at e2
  subst e2
  exact e1
theorem put_test (hf : Pu K te f) : PuT K (tTest te) (pTest f) := fun γ b e σ I H L w Q k => hf γ _ (pt_of e) σ I H L w _ fun v I' H' n s hv => by
  cases hv
  exact ⟨b, rfl, k I' H' n s⟩
theorem put_b (hf : Pu K te f) : PuT K (tB te) (pTest f) := fun γ b e σ I H L w Q k => hf γ _ (pt_of e) σ I H L w _ fun v I' H' n s hv => by
  cases hv
  exact ⟨b, rfl, k I' H' n s⟩
def bNot (p : List T → Option Bool) : List T → Option Bool := fun γ => (p γ).map (!·)
theorem put_not (hp : PuT K t p) : PuT K (tNot t) (bNot p) := fun γ b e σ I H L w Q k => by
  unfold bNot at e
  cases e1 : p γ with
  | none => simp [e1] at e
  | some c =>
    rw [e1] at e
    cases e
    exact hp γ c e1 σ I H L w _ fun I' H' n s => k I' H' n s
def bAnd (p q : List T → Option Bool) : List T → Option Bool := fun γ => (p γ).bind fun a => if a = true then q γ else some false
theorem put_and (hp : PuT K t p) (hq : PuT K u q) : PuT K (tAnd t u) (bAnd p q) := fun γ b e σ I H L w Q k => by
  unfold bAnd at e
  obtain ⟨a, e1, e2⟩ := Option.bind_eq_some_iff.mp e
  refine hp γ a e1 σ I H L w _ fun I1 H1 n1 s1 => ?_
  cases a with
  | true =>
    show u σ H1 Q
    exact hq γ b (by simpa using e2) σ I1 H1 L (w.new n1 s1) Q fun I2 H2 n2 s2 => k I2 H2 (n1.trans n2) s2
  | false =>
    show Q false H1
    simp at e2
    subst e2
    exact k I1 H1 n1 s1
def bOr (p q : List T → Option Bool) : List T → Option Bool := fun γ => (p γ).bind fun a => if a = true then some true else q γ
theorem put_or (hp : PuT K t p) (hq : PuT K u q) : PuT K (tOr t u) (bOr p q) := fun γ b e σ I H L w Q k => by
  unfold bOr at e
  obtain ⟨a, e1, e2⟩ := Option.bind_eq_some_iff.mp e
  refine hp γ a e1 σ I H L w _ fun I1 H1 n1 s1 => ?_
  cases a with
  | false =>
    show u σ H1 Q
    exact hq γ b (by simpa using e2) σ I1 H1 L (w.new n1 s1) Q fun I2 H2 n2 s2 => k I2 H2 (n1.trans n2) s2
  | true =>
    show Q true H1
    simp at e2
    subst e2
    exact k I1 H1 n1 s1
def bYes : List T → Option Bool := fun _ => some true
theorem put_yes : PuT K tYes bYes := fun γ b e σ I H L w Q k => by
  cases e
  exact k I H (New.refl I H) w.sub
/-- truth of a number, a text, a list, None -/
def bTru (f : List T → Option D) : List T → Option Bool := fun γ => (f γ).bind fun x => match x with
  | .bl b => some b
  | .int i => some (decide (i ≠ 0))
  | .str s => some (decide (s.length ≠ 0))
  | .lst ds => some (decide (ds.length ≠ 0))
  | .tup ds => some (decide (ds.length ≠ 0))
  | .non => some false
  | _ => none
def pAnd (f g : List T → Option D) : List T → Option D := fun γ => (f γ).bind fun x => match x with
  | .bl true => (g γ).bind fun y => match y with
    | .bl b => some (.bl b)
    | _ => none
  | .bl false => some (.bl false)
  | _ => none
theorem pu_and (hf : Pu K ta f) (hg : Pu K tb g) : Pu K (tAndV ta tb) (pAnd f g) := fun γ z e σ I H L w Q k => by
  unfold pAnd at e
  obtain ⟨x, e1, e2⟩ := Option.bind_eq_some_iff.mp e
  refine hf γ x e1 σ I H L w _ fun v I1 H1 n1 s1 hv => ?_
  cases x with
  | bl a =>
    cases hv
    refine ⟨a, rfl, ?_⟩
    cases a with
    | true =>
      show tb σ H1 Q
      simp only at e2
      obtain ⟨y, e3, e4⟩ := Option.bind_eq_some_iff.mp e2
      cases y <;> simp at e4
      subst e4
      exact hg γ _ e3 σ I1 H1 L (w.new n1 s1) Q fun v I2 H2 n2 s2 hv => k v I2 H2 (n1.trans n2) s2 hv
    | false =>
      show Q (.bl false) H1
      simp at e2
      subst e2
      exact k _ I1 H1 n1 s1 (.bl _)
  | _ => simp at e2
def pOr (f g : List T → Option D) : List T → Option D := fun γ => (f γ).bind fun x => match x with
  | .bl false => (g γ).bind fun y => match y with
    | .bl b => some (.bl b)
    | _ => none
  | .bl true => some (.bl true)
  | _ => none
theorem pu_or (hf : Pu K ta f) (hg : Pu K tb g) : Pu K (tOrV ta tb) (pOr f g) := fun γ z e σ I H L w Q k => by
  unfold pOr at e
  obtain ⟨x, e1, e2⟩ := Option.bind_eq_some_iff.mp e
  refine hf γ x e1 σ I H L w _ fun v I1 H1 n1 s1 hv => ?_
  cases x with
  | bl a =>
    cases hv
    refine ⟨a, rfl, ?_⟩
    cases a with
    | false =>
      show tb σ H1 Q
      simp only at e2
      obtain ⟨y, e3, e4⟩ := Option.bind_eq_some_iff.mp e2
      cases y <;> simp at e4
      subst e4
      exact hg γ _ e3 σ I1 H1 L (w.new n1 s1) Q fun v I2 H2 n2 s2 hv => k v I2 H2 (n1.trans n2) s2 hv
    | true =>
      show Q (.bl true) H1
      simp at e2
      subst e2
      exact k _ I1 H1 n1 s1 (.bl _)
  | _ => simp at e2
def pNot (f : List T → Option D) : List T → Option D := fun γ => (f γ).bind fun x => match x with
  | .bl b => some (.bl (!b))
  | _ => none
theorem pu_not (hf : Pu K ta f) : Pu K (tNotV ta) (pNot f) := fun γ z e σ I H L w Q k => by
  unfold pNot at e
  obtain ⟨x, e1, e2⟩ := Option.bind_eq_some_iff.mp e
  refine hf γ x e1 σ I H L w _ fun v I1 H1 n1 s1 hv => ?_
  cases x <;> simp at e2
  cases hv
  subst e2
  exact ⟨_, rfl, k _ I1 H1 n1 s1 (.bl _)⟩
def pIf (p : List T → Option Bool) (f g : List T → Option D) : List T → Option D := fun γ => (p γ).bind fun a => if a = true then f γ else g γ
theorem pu_if (hp : PuT K t p) (hf : Pu K ta f) (hg : Pu K tb g) : Pu K (tIf t ta tb) (pIf p f g) := fun γ z e σ I H L w Q k => by
  unfold pIf at e
  obtain ⟨a, e1, e2⟩ := Option.bind_eq_some_iff.mp e
  refine hp γ a e1 σ I H L w _ fun I1 H1 n1 s1 => ?_
  cases a with
  | true =>
    show ta σ H1 Q
    exact hf γ z (by simpa using e2) σ I1 H1 L (w.new n1 s1) Q fun v I2 H2 n2 s2 hv => k v I2 H2 (n1.trans n2) s2 hv
  | false =>
    show tb σ H1 Q
    exact hg γ z (by simpa using e2) σ I1 H1 L (w.new n1 s1) Q fun v I2 H2 n2 s2 hv => k v I2 H2 (n1.trans n2) s2 hv
/-- a < b < c -/
def pChain (o o' : D → D → Option D) (f g h : List T → Option D) : List T → Option D := fun γ => (f γ).bind fun x => (g γ).bind fun y => (o x y).bind fun z => match z with
  | .bl true => (h γ).bind fun w => (o' y w).bind fun r => match r with
    | .bl b => some (.bl b)
    | _ => none
  | .bl false => some (.bl false)
  | _ => none
theorem pu_chain {o o' : D → D → Option D} {r' : R2} (hf : Cu K ta f) (hg : Cu K tb g) (hh : Cu K tc h) (ho : ∀ x y z, o x y = some z → OpT K r x y z) (ho' : ∀ x y z, o' x y = some z → OpT K r' x y z) : Pu K (tChain r r' ta tb tc) (pChain o o' f g h) := fun γ z e σ I H L w Q k => by
  unfold pChain at e
  obtain ⟨x, e1, e⟩ := Option.bind_eq_some_iff.mp e
  obtain ⟨y, e2, e⟩ := Option.bind_eq_some_iff.mp e
  obtain ⟨z1, e3, e4⟩ := Option.bind_eq_some_iff.mp e
  refine hf γ x e1 σ I H L w _ fun v I1 H1 n1 s1 hv => hg γ y e2 σ I1 H1 L (w.new n1 s1) _ fun u I2 H2 n2 s2 hu => ho x y z1 e3 I2 H2 v u s2 (hv.new n2) hu _ fun o1 I3 H3 n3 s3 ho1 => ?_
  have n13 := (n1.trans n2).trans n3
  cases z1 with
  | bl a =>
    cases ho1
    refine ⟨a, rfl, ?_⟩
    cases a with
    | false =>
      show Q (.bl false) H3
      simp at e4
      subst e4
      exact k _ I3 H3 n13 s3 (.bl _)
    | true =>
      show tc σ H3 _
      simp only at e4
      obtain ⟨w1, e5, e6⟩ := Option.bind_eq_some_iff.mp e4
      obtain ⟨r1, e7, e8⟩ := Option.bind_eq_some_iff.mp e6
      cases r1 <;> simp at e8
      subst e8
      exact hh γ w1 e5 σ I3 H3 L (w.new n13 s3) _ fun v2 I4 H4 n4 s4 hv2 => ho' y w1 _ e7 I4 H4 u v2 s4 ((hu.new n3).new n4) hv2 Q fun o2 I5 H5 n5 s5 ho2 => k o2 I5 H5 ((n13.trans n4).trans n5) s5 ho2
  | _ => simp at e4
/-! slices -/
def oNone : List T → Option (Option Int) := fun _ => some none
def oSome (f : List T → Option D) : List T → Option (Option Int) := fun γ => (f γ).bind fun x => match x with
  | .int i => some (some i)
  | _ => none
theorem puo_none : PuO K tNoPart oNone := fun γ o e σ I H L w Q k => by
  cases e
  exact k I H (New.refl I H) w.sub
theorem puo_some (hf : Pu K te f) : PuO K (tPart te) (oSome f) := fun γ o e σ I H L w Q k => by
  unfold oSome at e
  obtain ⟨x, e1, e2⟩ := Option.bind_eq_some_iff.mp e
  cases x <;> simp at e2
  subst e2
  exact hf γ _ e1 σ I H L w _ fun v I' H' n s hv => by
    cases hv
    exact ⟨_, rfl, k I' H' n s⟩
def SlT (K : PySem.W.Frag) (r : V → Option Int → Option Int → Hp → VK → Prop) (x : D) (lo hi : Option Int) (z : D) : Prop := ∀ I H v, Ex I H → Tp K I H v x → PureR K I H (r v lo hi) z
def pSl (o : D → Option Int → Option Int → Option D) (f : List T → Option D) (a b : List T → Option (Option Int)) : List T → Option D := fun γ => (f γ).bind fun x => (a γ).bind fun l => (b γ).bind fun h => o x l h
theorem pu_sl {o : D → Option Int → Option Int → Option D} {r : V → Option Int → Option Int → Hp → VK → Prop} {tl th : TO} {a b : List T → Option (Option Int)} (hf : Cu K te f) (ha : PuO K tl a) (hb : PuO K th b) (ho : ∀ x l h z, o x l h = some z → SlT K r x l h z) : Pu K (tSl r te tl th) (pSl o f a b) := fun γ z e σ I H L w Q k => by
  unfold pSl at e
  obtain ⟨x, e1, e⟩ := Option.bind_eq_some_iff.mp e
  obtain ⟨l, e2, e⟩ := Option.bind_eq_some_iff.mp e
  obtain ⟨h, e3, e4⟩ := Option.bind_eq_some_iff.mp e
  exact hf γ x e1 σ I H L w _ fun v I1 H1 n1 s1 hv => ha γ l e2 σ I1 H1 L (w.new n1 s1) _ fun I2 H2 n2 s2 => hb γ h e3 σ I2 H2 L (w.new (n1.trans n2) s2) _ fun I3 H3 n3 s3 =>
    ho x l h z e4 I3 H3 v s3 ((hv.new n2).new n3) Q fun o I4 H4 n4 s4 ho => k o I4 H4 (((n1.trans n2).trans n3).trans n4) s4 ho
/-- xs[::-1] -/
def oRev : D → Option D
  | .lst ds => some (.lst ds.reverse)
  | _ => none
theorem pu_rev (hf : Cu K te f) : Pu K (tRevL K te) (pUn oRev f) := fun γ z e σ I H L w Q k => by
  unfold pUn at e
  obtain ⟨x, e1, e2⟩ := Option.bind_eq_some_iff.mp e
  cases x <;> simp [oRev] at e2
  subst e2
  refine hf γ _ e1 σ I H L w _ fun v I1 H1 n1 s1 hv => ?_
  obtain ⟨a, xs, rfl, h1, h2⟩ := hv.l s1
  refine ⟨a, xs, rfl, h1, fun p hp => ?_⟩
  obtain ⟨n, s⟩ := alloc (o := .lst xs.reverse) s1 hp
  exact k _ _ _ (n1.trans n) s (.lst (sq_of upd_same) (h2.reverse.mono n.i))
end
end FD

/-! FS2: operators and built-in functions as functions of data. -/
namespace FD
open PySem PySem.Spec PyProof.Rows L2

/-! ### rules of the kit joined -/
section
variable {X : Cx}
def rEqA (K : PySem.W.Frag) : R2 := fun x y H Q => rEq x y H Q ∨ rEqD K x y H Q
def rNeA (K : PySem.W.Frag) : R2 := fun x y H Q => rNe x y H Q ∨ rNeD K x y H Q
theorem op_eqA (hu : X.A.units + 64 < cLine) : OpR X (compareOp .Eq) (rEqA X.K) := OpR.or op_eq (op_eqD hu)
theorem op_neA (hu : X.A.units + 64 < cLine) : OpR X (compareOp .NotEq) (rNeA X.K) := OpR.or op_ne (op_neD hu)
def rInA (K : PySem.W.Frag) : R2 := fun x y H Q => rIn K false x y H Q ∨ (fun x y H Q => rInD K x y H Q ∨ rInTD K false x y H Q) x y H Q
def rNotInA (K : PySem.W.Frag) : R2 := fun x y H Q => rIn K true x y H Q ∨ (fun x y H Q => rNotInD K x y H Q ∨ rInTD K true x y H Q) x y H Q
theorem op_inA (hu : X.A.units + 65 < cLine) : OpR X (compareOp .In) (rInA X.K) := OpR.or op_in_seq (OpR.or (op_inD hu) (op_inTD hu))
theorem op_notInA (hu : X.A.units + 65 < cLine) : OpR X (compareOp .NotIn) (rNotInA X.K) := OpR.or op_notIn_seq (OpR.or (op_notInD hu) (op_notInTD hu))
theorem op_eqAK {K : PySem.W.Frag} (hu : X.A.units + 64 < cLine) (hK : X.K = K := by rfl) : OpR X (compareOp .Eq) (rEqA K) := by subst hK; exact op_eqA hu
theorem op_neAK {K : PySem.W.Frag} (hu : X.A.units + 64 < cLine) (hK : X.K = K := by rfl) : OpR X (compareOp .NotEq) (rNeA K) := by subst hK; exact op_neA hu
theorem op_inAK {K : PySem.W.Frag} (hu : X.A.units + 65 < cLine) (hK : X.K = K := by rfl) : OpR X (compareOp .In) (rInA K) := by subst hK; exact op_inA hu
theorem op_notInAK {K : PySem.W.Frag} (hu : X.A.units + 65 < cLine) (hK : X.K = K := by rfl) : OpR X (compareOp .NotIn) (rNotInA K) := by subst hK; exact op_notInA hu
end

/-! ### operators -/
def oAdd : D → D → Option D
  | .int i, .int j => some (.int (i + j))
  | .str a, .str b => if a.length + b.length ≤ sizeLine then some (.str (a ++ b)) else none
  | .lst a, .lst b => if a.length + b.length ≤ sizeLine then some (.lst (a ++ b)) else none
  | .tup a, .tup b => if a.length + b.length ≤ sizeLine then some (.tup (a ++ b)) else none
  | _, _ => none
def oSub : D → D → Option D
  | .int i, .int j => some (.int (i - j))
  | _, _ => none
def mulOk (i j : Int) : Prop := i.natAbs.log2 + j.natAbs.log2 < 1000000
instance (i j : Int) : Decidable (mulOk i j) := inferInstanceAs (Decidable (_ < _))
def oMul : D → D → Option D
  | .int i, .int j => if mulOk i j then some (.int (i * j)) else none
  | _, _ => none
def dvOk (j : Int) : Prop := 0 < j ∧ j.natAbs.log2 < 9000
instance (j : Int) : Decidable (dvOk j) := inferInstanceAs (Decidable (_ ∧ _))
theorem dvOk_s {j : Int} (h : 0 < j) (h2 : j ≤ 18446744073709551616) : dvOk j := lgDiv ⟨h, h2⟩
def oDiv : D → D → Option D
  | .int i, .int j => if dvOk j then some (.int (i / j)) else none
  | _, _ => none
def oMod : D → D → Option D
  | .int i, .int j => if 0 < j then some (.int (i % j)) else none
  | _, _ => none
def oPow : D → D → Option D
  | .int i, .int j => if 0 ≤ j ∧ j ≤ 1000000 ∧ i.natAbs < 2 ^ 64 then some (.int (i ^ j.toNat)) else none
  | _, _ => none
/-- == of values without objects -/
def sEq : D → D → Option Bool
  | .int i, .int j => some (decide (i = j))
  | .str i, .str j => some (decide (i = j))
  | .bl i, .bl j => some (decide (i = j))
  | .non, .non => some true
  | .non, .int _ => some false
  | .int _, .non => some false
  | .non, .bl _ => some false
  | .bl _, .non => some false
  | .non, .str _ => some false
  | .str _, .non => some false
  | .int _, .str _ => some false
  | .str _, .int _ => some false
  | .bl _, .str _ => some false
  | .str _, .bl _ => some false
  | _, _ => none
def oEq (x y : D) : Option D := match sEq x y with
  | some b => some (.bl b)
  | none => if x.shaped = true ∧ y.shaped = true then some (.bl (D.eqv x y)) else none
def oNe (x y : D) : Option D := match sEq x y with
  | some b => some (.bl (!b))
  | none => if x.shaped = true ∧ y.shaped = true then some (.bl (!D.eqv x y)) else none
def D.flat : D → Bool
  | .non => true
  | .bl _ => true
  | .int _ => true
  | .str _ => true
  | _ => false
def fEq : D → D → Bool
  | .non, .non => true
  | .bl a, .bl b => a == b
  | .bl a, .int b => (if a then 1 else 0) == b
  | .int a, .bl b => a == (if b then 1 else 0)
  | .int a, .int b => a == b
  | .str a, .str b => a == b
  | _, _ => false
def items : D → Option (List D)
  | .lst ds => some ds
  | .tup ds => some ds
  | _ => none
def oIn (x y : D) : Option D := match items y with
  | none => none
  | some ds => if x.flat = true ∧ ds.all D.flat = true then some (.bl (ds.any fun z => fEq z x)) else if x.shaped = true ∧ y.shaped = true then some (.bl (ds.any fun z => D.eqv z x)) else none
def oNotIn (x y : D) : Option D := match items y with
  | none => none
  | some ds => if x.flat = true ∧ ds.all D.flat = true then some (.bl (!ds.any fun z => fEq z x)) else if x.shaped = true ∧ y.shaped = true then some (.bl (!ds.any fun z => D.eqv z x)) else none
def oLt : D → D → Option D
  | .int i, .int j => some (.bl (decide (i < j)))
  | .str i, .str j => some (.bl (decide (i.cps.toList < j.cps.toList)))
  | _, _ => none
def oLe : D → D → Option D
  | .int i, .int j => some (.bl (decide (i ≤ j)))
  | .str i, .str j => some (.bl (!decide (j.cps.toList < i.cps.toList)))
  | _, _ => none
def oGt : D → D → Option D
  | .int i, .int j => some (.bl (decide (j < i)))
  | .str i, .str j => some (.bl (decide (j.cps.toList < i.cps.toList)))
  | _, _ => none
def oGe : D → D → Option D
  | .int i, .int j => some (.bl (decide (j ≤ i)))
  | .str i, .str j => some (.bl (!decide (i.cps.toList < j.cps.toList)))
  | _, _ => none
def D.isNon : D → Bool
  | .non => true
  | _ => false
def oIsN : D → D → Option D
  | .raw _, _ => none
  | x, .non => some (.bl x.isNon)
  | _, _ => none
def oNotN : D → D → Option D
  | .raw _, _ => none
  | x, .non => some (.bl (!x.isNon))
  | _, _ => none
def oIsB : D → D → Option D
  | .bl a, .bl b => some (.bl (decide (a = b)))
  | _, _ => none
def oNotB : D → D → Option D
  | .bl a, .bl b => some (.bl (!decide (a = b)))
  | _, _ => none
def oIx : D → D → Option D
  | .lst ds, .int k => atI ds k
  | .tup ds, .int k => atI ds k
  | .str w, .int k => if w.length ≤ sizeLine then (atI w.cps.toList k).map fun c => .str ⟨#[c]⟩ else none
  | _, _ => none
def oNeg : D → Option D
  | .int i => some (.int (-i))
  | _ => none
/-! built-in functions -/
def oLen : D → Option D
  | .lst ds => some (.int (ds.length : Nat))
  | .tup ds => some (.int (ds.length : Nat))
  | .str w => if w.length ≤ sizeLine then some (.int (w.length : Nat)) else none
  | _ => none
def oInt : D → Option D
  | .int i => some (.int i)
  | .bl k => some (.int (if k then 1 else 0))
  | _ => none
def oAbs : D → Option D
  | .int i => some (.int (if i < 0 then -i else i))
  | _ => none
def oBool : D → Option D
  | .int i => some (.bl (i != 0))
  | .bl k => some (.bl k)
  | _ => none
def oStr : D → Option D
  | .int i => if i.natAbs.log2 < 1920 then some (.str (toString i)) else none
  | _ => none
def oMax2 : D → D → Option D
  | .int i, .int j => some (.int (if j > i then j else i))
  | _, _ => none
def oMin2 : D → D → Option D
  | .int i, .int j => some (.int (if j < i then j else i))
  | _, _ => none
def oList : D → Option D
  | .lst ds => some (.lst ds)
  | .tup ds => some (.lst ds)
  | _ => none
def oTuple : D → Option D
  | .lst ds => some (.tup ds)
  | .tup ds => some (.tup ds)
  | _ => none
def allB : List D → Option (List Bool)
  | [] => some []
  | .bl b :: ds => (allB ds).map (b :: ·)
  | _ :: _ => none
def allI : List D → Option (List Int)
  | [] => some []
  | .int b :: ds => (allI ds).map (b :: ·)
  | _ :: _ => none
def allS : List D → Option (List Str)
  | [] => some []
  | .str b :: ds => (allS ds).map (b :: ·)
  | _ :: _ => none
def oAny : D → Option D
  | .lst ds => (allB ds).map fun bs => .bl (bs.any id)
  | _ => none
def oAll : D → Option D
  | .lst ds => (allB ds).map fun bs => .bl (bs.all id)
  | _ => none
def oSum : D → Option D
  | .lst ds => (allI ds).map fun ns => .int ns.sum
  | _ => none
/-- isinstance(x, a built-in type) -/
def oIsi (T : String) : D → Option D := fun x => if x.typed = true then (kitB x.tyN T).map .bl else none
section
variable {K : PySem.W.Frag} {x y z : D} {r r' : R2}
theorem opt_or1 (h : OpT K r x y z) : OpT K (fun x y H Q => r x y H Q ∨ r' x y H Q) x y z := fun I H v w s hv hw Q q => .inl (h I H v w s hv hw Q q)
theorem opt_or2 (h : OpT K r' x y z) : OpT K (fun x y H Q => r x y H Q ∨ r' x y H Q) x y z := fun I H v w s hv hw Q q => .inr (h I H v w s hv hw Q q)
theorem add_t : ∀ x y z, oAdd x y = some z → OpT K (rAddA K) x y z := fun x y z e => by
  unfold oAdd at e
  split at e
  · cases e; exact opd_add.t rfl
  · split at e
    · rename_i h; cases e; exact (opd_addStr h).t rfl
    · cases e
  · split at e
    · rename_i a b h
      cases e
      intro I H v w s hv hw Q q
      obtain ⟨p1, xs, rfl, h1, h2⟩ := hv.l s
      obtain ⟨p2, ys, rfl, h3, h4⟩ := hw.l s
      exact .inr (.inr (.inl ⟨_, _, _, _, rfl, rfl, h1, h3, by rw [h2.length, h4.length]; exact h, fun p hp => let ⟨n, e⟩ := alloc (o := .lst _) s hp; q _ _ _ n e (.lst (sq_of upd_same) ((h2.append h4).mono n.i))⟩))
    · cases e
  · split at e
    · rename_i a b h
      cases e
      intro I H v w s hv hw
      cases hv with
      | is hv => cases hw with
        | is hw => exact opd_addT h I H _ _ s hv hw
    · cases e
  · cases e
theorem sub_t : ∀ x y z, oSub x y = some z → OpT K (rI0 fun i j => .int (i - j)) x y z := fun x y z e => by
  unfold oSub at e
  split at e
  · cases e; exact opd_sub.t rfl
  · cases e
theorem mul_t : ∀ x y z, oMul x y = some z → OpT K (rI CMulW fun i j => .int (i * j)) x y z := fun x y z e => by
  unfold oMul at e
  split at e
  · split at e
    · rename_i h; cases e; exact (opd_mul h).t rfl
    · cases e
  · cases e
theorem div_t : ∀ x y z, oDiv x y = some z → OpT K (rI CDivW fun i j => .int (i / j)) x y z := fun x y z e => by
  unfold oDiv at e
  split at e
  · split at e
    · rename_i h; cases e; exact (opd_fdiv h).t rfl
    · cases e
  · cases e
theorem mod_t : ∀ x y z, oMod x y = some z → OpT K (rI (fun _ j => 0 < j) fun i j => .int (i % j)) x y z := fun x y z e => by
  unfold oMod at e
  split at e
  · split at e
    · rename_i h; cases e; exact (opd_mod h).t rfl
    · cases e
  · cases e
theorem pow_t : ∀ x y z, oPow x y = some z → OpT K (rI CPow fun i j => .int (i ^ j.toNat)) x y z := fun x y z e => by
  unfold oPow at e
  split at e
  · split at e
    · rename_i h; cases e; exact (opd_pow h).t rfl
    · cases e
  · cases e
theorem sEq_v {b : Bool} (e : sEq x y = some b) {I H : Hp} {v w : V} (hv : Tp K I H v x) (hw : Tp K I H w y) : scal v w = true ∧ decide (v = w) = b := by
  unfold sEq at e
  split at e <;> cases e
  · obtain rfl := hv.n_; obtain rfl := hw.n_; exact ⟨rfl, by simp⟩
  · obtain rfl := hv.s; obtain rfl := hw.s; exact ⟨rfl, by simp⟩
  · obtain rfl := hv.b; obtain rfl := hw.b; exact ⟨rfl, by simp⟩
  · obtain rfl := hv.n; obtain rfl := hw.n; exact ⟨rfl, by simp⟩
  · obtain rfl := hv.n; obtain rfl := hw.n_; exact ⟨rfl, by simp⟩
  · obtain rfl := hv.n_; obtain rfl := hw.n; exact ⟨rfl, by simp⟩
  · obtain rfl := hv.n; obtain rfl := hw.b; exact ⟨rfl, by simp⟩
  · obtain rfl := hv.b; obtain rfl := hw.n; exact ⟨rfl, by simp⟩
  · obtain rfl := hv.n; obtain rfl := hw.s; exact ⟨rfl, by simp⟩
  · obtain rfl := hv.s; obtain rfl := hw.n; exact ⟨rfl, by simp⟩
  · obtain rfl := hv.n_; obtain rfl := hw.s; exact ⟨rfl, by simp⟩
  · obtain rfl := hv.s; obtain rfl := hw.n_; exact ⟨rfl, by simp⟩
  · obtain rfl := hv.b; obtain rfl := hw.s; exact ⟨rfl, by simp⟩
  · obtain rfl := hv.s; obtain rfl := hw.b; exact ⟨rfl, by simp⟩
theorem eq_t : ∀ x y z, oEq x y = some z → OpT K (rEqA K) x y z := fun x y z e => by
  unfold oEq at e
  split at e
  · rename_i b h
    cases e
    refine opt_or1 fun I H v w s hv hw Q q => ?_
    obtain ⟨h1, h2⟩ := sEq_v h hv hw
    exact ⟨h1, q _ I H (New.refl I H) s (h2 ▸ .bl _)⟩
  · split at e
    · rename_i h; cases e; exact opt_or2 ((opd_eqD h.1 h.2).t rfl)
    · cases e
theorem ne_t : ∀ x y z, oNe x y = some z → OpT K (rNeA K) x y z := fun x y z e => by
  unfold oNe at e
  split at e
  · rename_i b h
    cases e
    refine opt_or1 fun I H v w s hv hw Q q => ?_
    obtain ⟨h1, h2⟩ := sEq_v h hv hw
    exact ⟨h1, q _ I H (New.refl I H) s (h2 ▸ .bl _)⟩
  · split at e
    · rename_i h; cases e; exact opt_or2 ((opd_neD h.1 h.2).t rfl)
    · cases e
def D.fv : D → V
  | .bl b => .bl b
  | .int i => .int i
  | .str s => .str s
  | _ => .non
theorem Is.fv {I : Hp} {v : V} (h : Is K I v x) (f : x.flat = true) : v = x.fv ∧ flatV v = true := by
  cases h <;> first | exact ⟨rfl, rfl⟩ | cases f
theorem Tp.fv {I H : Hp} {v : V} (h : Tp K I H v x) (f : x.flat = true) : v = x.fv ∧ flatV v = true := by
  cases h with
  | is h => exact Is.fv h f
  | lst => cases f
  | dic => cases f
theorem isA_fv {I : Hp} : ∀ {ds : List D} {vs : List V}, IsA K I vs ds → ds.all D.flat = true → vs = ds.map D.fv ∧ vs.all flatV = true
  | [], _, h, _ => by cases h; exact ⟨rfl, rfl⟩
  | d :: ds, _, h, f => by
    cases h with
    | cons h1 h2 =>
      simp only [List.all_cons, Bool.and_eq_true] at f
      obtain ⟨e1, e2⟩ := Is.fv h1 f.1
      obtain ⟨e3, e4⟩ := isA_fv h2 f.2
      subst e1 e3
      exact ⟨rfl, by simp [e2, e4]⟩
theorem eqV_fv {x y : D} (hx : x.flat = true) (hy : y.flat = true) : eqV x.fv y.fv = fEq x y := by
  cases x <;> cases hx <;> cases y <;> cases hy <;> rfl
theorem inV_fv (hx : x.flat = true) {ds : List D} (h : ds.all D.flat = true) : inV x.fv (ds.map D.fv) = ds.any fun z => fEq z x := by
  unfold inV
  induction ds with
  | nil => rfl
  | cons d ds ih =>
    simp only [List.all_cons, Bool.and_eq_true] at h
    rw [List.map_cons, List.any_cons, List.any_cons, eqV_fv h.1 hx, ih h.2]
theorem Tp.seq {ds : List D} {I H : Hp} {v : V} (s : Ex I H) (h : Tp K I H v y) (e : items y = some ds) : ∃ a xs, v = .ref a ∧ (SqL K H a xs ∨ SqT K H a xs) ∧ IsA K I xs ds := by
  cases y <;> simp [items] at e
  · subst e; obtain ⟨a, xs, h1, h2, h3⟩ := h.l s; exact ⟨a, xs, h1, .inl h2, h3⟩
  · subst e; obtain ⟨a, xs, h1, h2, h3⟩ := h.t s; exact ⟨a, xs, h1, .inr h2, h3⟩
theorem any_pyA {ds : List D} : ((D.pyA ds).any fun z => PyData.eqv z x.py) = ds.any fun z => D.eqv z x := by
  rw [pyA_map, List.any_map]
  rfl
theorem in_t : ∀ x y z, oIn x y = some z → OpT K (rInA K) x y z := fun x y z e => by
  unfold oIn at e
  split at e
  · cases e
  · rename_i ds hi
    split at e
    · rename_i h
      cases e
      refine opt_or1 fun I H v w s hv hw Q q => ?_
      obtain ⟨a, xs, rfl, h1, h2⟩ := hw.seq s hi
      obtain ⟨rfl, e2⟩ := hv.fv h.1
      obtain ⟨rfl, e4⟩ := isA_fv h2 h.2
      refine ⟨a, _, rfl, h1, e2, e4, ?_⟩
      rw [if_neg Bool.false_ne_true, inV_fv h.1 h.2]
      exact q _ I H (New.refl I H) s (.bl _)
    · split at e
      · rename_i h
        cases e
        refine opt_or2 ?_
        cases y <;> simp [items] at hi
        · subst hi; rw [← any_pyA]; exact opt_or1 ((opd_inD h.1 h.2).t rfl)
        · subst hi
          have := (opd_inTD (K := K) (ng := false) h.1 h.2).t rfl
          simp only [Bool.xor_false] at this
          exact opt_or2 this
      · cases e
theorem notIn_t : ∀ x y z, oNotIn x y = some z → OpT K (rNotInA K) x y z := fun x y z e => by
  unfold oNotIn at e
  split at e
  · cases e
  · rename_i ds hi
    split at e
    · rename_i h
      cases e
      refine opt_or1 fun I H v w s hv hw Q q => ?_
      obtain ⟨a, xs, rfl, h1, h2⟩ := hw.seq s hi
      obtain ⟨rfl, e2⟩ := hv.fv h.1
      obtain ⟨rfl, e4⟩ := isA_fv h2 h.2
      refine ⟨a, _, rfl, h1, e2, e4, ?_⟩
      rw [if_pos rfl, inV_fv h.1 h.2]
      exact q _ I H (New.refl I H) s (.bl _)
    · split at e
      · rename_i h
        cases e
        refine opt_or2 ?_
        cases y <;> simp [items] at hi
        · subst hi; rw [← any_pyA]; exact opt_or1 ((opd_notInD h.1 h.2).t rfl)
        · subst hi
          have := (opd_inTD (K := K) (ng := true) h.1 h.2).t rfl
          simp only [Bool.xor_true] at this
          exact opt_or2 this
      · cases e
theorem opt_ii {f : Int → Int → Bool} {i j : Int} : OpT K (rI0 fun i j => .bl (f i j)) (.int i) (.int j) (.bl (f i j)) := OpD.t opd_Ib rfl
theorem opt_ss {f : Str → Str → Bool} {i j : Str} : OpT K (fun x y H Q => ∃ i j, x = .str i ∧ y = .str j ∧ Q (.bl (f i j)) H) (.str i) (.str j) (.bl (f i j)) := fun I H v w s hv hw Q q => by
  obtain rfl := hv.s
  obtain rfl := hw.s
  exact ⟨i, j, rfl, rfl, q _ I H (New.refl I H) s (.bl _)⟩
theorem lt_t : ∀ x y z, oLt x y = some z → OpT K rLtA x y z := fun x y z e => by
  unfold oLt at e
  split at e <;> cases e
  · exact opt_or1 (opt_ii (f := fun i j => decide (i < j)))
  · exact opt_or2 (opt_ss (f := fun i j => decide (i.cps.toList < j.cps.toList)))
theorem le_t : ∀ x y z, oLe x y = some z → OpT K rLeA x y z := fun x y z e => by
  unfold oLe at e
  split at e <;> cases e
  · exact opt_or1 (opt_ii (f := fun i j => decide (i ≤ j)))
  · exact opt_or2 (opt_ss (f := fun i j => !decide (j.cps.toList < i.cps.toList)))
theorem gt_t : ∀ x y z, oGt x y = some z → OpT K rGtA x y z := fun x y z e => by
  unfold oGt at e
  split at e <;> cases e
  · exact opt_or1 (opt_ii (f := fun i j => decide (j < i)))
  · exact opt_or2 (opt_ss (f := fun i j => decide (j.cps.toList < i.cps.toList)))
theorem ge_t : ∀ x y z, oGe x y = some z → OpT K rGeA x y z := fun x y z e => by
  unfold oGe at e
  split at e <;> cases e
  · exact opt_or1 (opt_ii (f := fun i j => decide (j ≤ i)))
  · exact opt_or2 (opt_ss (f := fun i j => !decide (i.cps.toList < j.cps.toList)))
theorem Tp.non {I H : Hp} {v : V} (h : Tp K I H v x) (nr : ∀ v, x ≠ .raw v) : decide (v = .non) = x.isNon := by
  cases h with
  | is h => cases h <;> first | rfl | exact absurd rfl (nr _)
  | lst => rfl
  | dic => rfl
theorem isN_t : ∀ x y z, oIsN x y = some z → OpT K (fun x y H Q => y = .non ∧ Q (.bl (decide (x = .non))) H) x y z := fun x y z e => by
  unfold oIsN at e
  split at e <;> cases e
  rename_i x nr
  intro I H v w s hv hw Q q
  exact ⟨hw.n, q _ I H (New.refl I H) s (by rw [hv.non nr]; exact .bl _)⟩
theorem notN_t : ∀ x y z, oNotN x y = some z → OpT K (fun x y H Q => y = .non ∧ Q (.bl (!decide (x = .non))) H) x y z := fun x y z e => by
  unfold oNotN at e
  split at e <;> cases e
  rename_i x nr
  intro I H v w s hv hw Q q
  exact ⟨hw.n, q _ I H (New.refl I H) s (by rw [hv.non nr]; exact .bl _)⟩
theorem isB_t : ∀ x y z, oIsB x y = some z → OpT K (fun x y H Q => ∃ a b, x = .bl a ∧ y = .bl b ∧ Q (.bl (decide (a = b))) H) x y z := fun x y z e => by
  unfold oIsB at e
  split at e <;> cases e
  exact opd_isBl.t rfl
theorem notB_t : ∀ x y z, oNotB x y = some z → OpT K (fun x y H Q => ∃ a b, x = .bl a ∧ y = .bl b ∧ Q (.bl (!decide (a = b))) H) x y z := fun x y z e => by
  unfold oNotB at e
  split at e <;> cases e
  exact opd_isnotBl.t rfl
theorem ix_t : ∀ x y z, oIx x y = some z → OpT K (rIx K) x y z := fun x y z e => by
  unfold oIx at e
  split at e
  · intro I H v w s hv hw Q q
    obtain ⟨a, xs, rfl, h1, h2⟩ := hv.l s
    obtain rfl := hw.n_
    obtain ⟨v, e, hv⟩ := h2.atI e
    exact .inl ⟨_, _, _, v, rfl, rfl, h1, e, q v I H (New.refl I H) s hv⟩
  · intro I H v w s hv hw Q q
    obtain ⟨a, xs, rfl, h1, h2⟩ := hv.t s
    obtain rfl := hw.n_
    obtain ⟨v, e, hv⟩ := h2.atI e
    exact .inr (.inl ⟨_, _, _, v, rfl, rfl, h1, e, q v I H (New.refl I H) s hv⟩)
  · rename_i w k
    split at e
    · rename_i hl
      cases ec : atI w.cps.toList k with
      | none => simp [ec] at e
      | some c =>
        simp [ec] at e
        subst e
        exact OpD.t (opd_ixS hl ec) rfl
    · cases e
  · cases e
theorem neg_t : ∀ x z, oNeg x = some z → CallT K (rU fun i => .int (-i)) x z := fun x z e => by
  unfold oNeg at e
  split at e <;> cases e
  exact und_neg.t rfl
/-! built-in functions -/
theorem len_t : ∀ x z, oLen x = some z → CallT K (fun v => rLenA K [v]) x z := fun x z e => by
  unfold oLen at e
  split at e
  · cases e; exact cd_lenList.t rfl
  · cases e; exact cd_lenTup.t rfl
  · split at e
    · rename_i h; cases e; exact (cd_lenStr h).t rfl
    · cases e
  · cases e
theorem int_t : ∀ x z, oInt x = some z → CallT K (fun v => (fun xs H Q => (∃ i, xs = [V.int i] ∧ Q (V.int i) H) ∨ ∃ k, xs = [V.bl k] ∧ Q (V.int (if k then 1 else 0)) H : List V → Hp → VK → Prop) [v]) x z := fun x z e => by
  unfold oInt at e
  split at e <;> cases e
  · exact cd_int.t rfl
  · intro I H v s hv Q q
    obtain rfl := hv.b
    exact .inr ⟨_, rfl, q _ I H (New.refl I H) s (.int _)⟩
theorem abs_t : ∀ x z, oAbs x = some z → CallT K (fun v => (fun xs H Q => ∃ i, xs = [V.int i] ∧ Q (V.int (if i < 0 then -i else i)) H : List V → Hp → VK → Prop) [v]) x z := fun x z e => by
  unfold oAbs at e
  split at e <;> cases e
  exact cd_abs.t rfl
theorem bool_t : ∀ x z, oBool x = some z → CallT K (fun v => (fun xs H Q => (∃ i, xs = [V.int i] ∧ Q (V.bl (i != 0)) H) ∨ ∃ k, xs = [V.bl k] ∧ Q (V.bl k) H : List V → Hp → VK → Prop) [v]) x z := fun x z e => by
  unfold oBool at e
  split at e <;> cases e
  · intro I H v s hv Q q
    obtain rfl := hv.n_
    exact .inl ⟨_, rfl, q _ I H (New.refl I H) s (.bl _)⟩
  · intro I H v s hv Q q
    obtain rfl := hv.b
    exact .inr ⟨_, rfl, q _ I H (New.refl I H) s (.bl _)⟩
theorem str_t : ∀ x z, oStr x = some z → CallT K (fun v => (fun xs H Q => ∃ i, xs = [V.int i] ∧ i.natAbs.log2 < 1920 ∧ Q (V.str (toString i)) H : List V → Hp → VK → Prop) [v]) x z := fun x z e => by
  unfold oStr at e
  split at e
  · split at e
    · rename_i h
      cases e
      intro I H v s hv Q q
      obtain rfl := hv.n_
      exact ⟨_, rfl, h, q _ I H (New.refl I H) s (.str _)⟩
    · cases e
  · cases e
theorem max2_t : ∀ x y z, oMax2 x y = some z → OpT K (fun v w => (fun xs H Q => ∃ i j, xs = [V.int i, V.int j] ∧ Q (V.int (if j > i then j else i)) H : List V → Hp → VK → Prop) [v, w]) x y z := fun x y z e => by
  unfold oMax2 at e
  split at e <;> cases e
  intro I H v w s hv hw Q q
  obtain rfl := hv.n_
  obtain rfl := hw.n_
  exact ⟨_, _, rfl, q _ I H (New.refl I H) s (.int _)⟩
theorem min2_t : ∀ x y z, oMin2 x y = some z → OpT K (fun v w => (fun xs H Q => ∃ i j, xs = [V.int i, V.int j] ∧ Q (V.int (if j < i then j else i)) H : List V → Hp → VK → Prop) [v, w]) x y z := fun x y z e => by
  unfold oMin2 at e
  split at e <;> cases e
  intro I H v w s hv hw Q q
  obtain rfl := hv.n_
  obtain rfl := hw.n_
  exact ⟨_, _, rfl, q _ I H (New.refl I H) s (.int _)⟩
theorem list_t : ∀ x z, oList x = some z → CallT K (fun v => rListOf K [v]) x z := fun x z e => by
  have key : ∀ {ds : List D}, items x = some ds → CallT K (fun v => rListOf K [v]) x (.lst ds) := fun {ds} hi I H v s hv Q q => by
    obtain ⟨a, xs, rfl, h1, h2⟩ := hv.seq s hi
    exact ⟨a, xs, rfl, h1, fun p hp => let ⟨n, e⟩ := alloc (o := .lst _) s hp; q _ _ _ n e (.lst (sq_of upd_same) (h2.mono n.i))⟩
  unfold oList at e
  split at e <;> cases e
  · exact key rfl
  · exact key rfl
theorem tuple_t : ∀ x z, oTuple x = some z → CallT K (fun v => rTupOf K [v]) x z := fun x z e => by
  unfold oTuple at e
  split at e <;> cases e
  · intro I H v s hv Q q
    obtain ⟨a, xs, rfl, h1, h2⟩ := hv.l s
    exact ⟨a, xs, rfl, .inl ⟨h1, fun p hp => let ⟨n, e⟩ := alloc (o := .tup _) s hp; q _ _ _ n e (.tup (st_of upd_same) (h2.mono n.i))⟩⟩
  · intro I H v s hv Q q
    cases hv with
    | is hv => cases hv with
      | tup h1 h2 => exact ⟨_, _, rfl, .inr ⟨s.t h1, q _ I H (New.refl I H) s (.tup h1 h2)⟩⟩
theorem allB_eq : ∀ {ds : List D} {bs : List Bool}, allB ds = some bs → ds = bs.map .bl
  | [], _, e => by cases e; rfl
  | d :: ds, _, e => by
    cases d <;> simp [allB] at e
    obtain ⟨cs, e1, rfl⟩ := e
    rw [allB_eq e1]; rfl
theorem allI_eq : ∀ {ds : List D} {bs : List Int}, allI ds = some bs → ds = bs.map .int
  | [], _, e => by cases e; rfl
  | d :: ds, _, e => by
    cases d <;> simp [allI] at e
    obtain ⟨cs, e1, rfl⟩ := e
    rw [allI_eq e1]; rfl
theorem allS_eq : ∀ {ds : List D} {bs : List Str}, allS ds = some bs → ds = bs.map .str
  | [], _, e => by cases e; rfl
  | d :: ds, _, e => by
    cases d <;> simp [allS] at e
    obtain ⟨cs, e1, rfl⟩ := e
    rw [allS_eq e1]; rfl
theorem any_t : ∀ x z, oAny x = some z → CallT K (fun v => rAny K [v]) x z := fun x z e => by
  unfold oAny at e
  split at e
  · rename_i ds
    cases e1 : allB ds with
    | none => simp [e1] at e
    | some bs =>
      simp [e1] at e
      subst e
      rw [allB_eq e1]
      exact cd_any.t rfl
  · cases e
theorem all_t : ∀ x z, oAll x = some z → CallT K (fun v => rAll K [v]) x z := fun x z e => by
  unfold oAll at e
  split at e
  · rename_i ds
    cases e1 : allB ds with
    | none => simp [e1] at e
    | some bs =>
      simp [e1] at e
      subst e
      rw [allB_eq e1]
      exact cd_all.t rfl
  · cases e
theorem sum_t : ∀ x z, oSum x = some z → CallT K (fun v => rSum K [v]) x z := fun x z e => by
  unfold oSum at e
  split at e
  · rename_i ds
    cases e1 : allI ds with
    | none => simp [e1] at e
    | some ns =>
      simp [e1] at e
      subst e
      rw [allI_eq e1]
      intro I H v s hv Q q
      obtain ⟨a, xs, rfl, h1, h2⟩ := hv.l s
      rw [isA_ints.mp h2] at h1
      exact ⟨a, ns, rfl, h1, q _ I H (New.refl I H) s (.int _)⟩
  · cases e
theorem isi_t (T : String) : ∀ x y z, (fun x y => match y with | .raw (.ty T) => oIsi T x | _ => none : D → D → Option D) x y = some z → OpT K (fun v w => rIsi K [v, w]) x y z := fun x y z e => by
  dsimp only at e
  split at e
  · rename_i T
    unfold oIsi at e
    split at e
    · rename_i ht
      cases e1 : kitB x.tyN T with
      | none => simp [e1] at e
      | some b =>
        simp [e1] at e
        subst e
        intro I H v w s hv hw Q q
        obtain ⟨I1, i1, s1, hv1⟩ := hv.frz s
        cases hw with
        | is hw =>
          cases hw
          exact ⟨_, _, _, _, b, rfl, .ty T, hv1.tyx s1 ht, kit_ty e1, q _ I H (New.refl I H) s (.bl _)⟩
    · cases e
  · cases e
end
/-! slices -/
def oSl : D → Option Int → Option Int → Option D
  | .lst ds, lo, hi => some (.lst (cutD ds lo hi))
  | .tup ds, lo, hi => some (.tup (cutD ds lo hi))
  | .str w, lo, hi => if w.length ≤ sizeLine then some (.str (cutS w lo hi)) else none
  | _, _, _ => none
theorem cutD_whole {ds : List D} {lo hi : Option Int} (h : HT.sIx ds.length 0 lo = 0 ∧ HT.sIx ds.length ds.length hi = ds.length) : cutD ds lo hi = ds := by
  unfold cutD
  rw [h.1, h.2]
  simp
theorem sl_t {K : PySem.W.Frag} : ∀ x l h z, oSl x l h = some z → SlT K (rSlAny K) x l h z := fun x l h z e => by
  unfold oSl at e
  split at e
  · cases e
    intro I H v s hv Q q
    obtain ⟨a, xs, rfl, h1, h2⟩ := hv.l s
    exact .inl ⟨_, _, rfl, h1, fun p hp => let ⟨n, e⟩ := alloc (o := .lst _) s hp; q _ _ _ n e (.lst (sq_of upd_same) ((h2.cut l h).mono n.i))⟩
  · cases e
    intro I H v s hv Q q
    cases hv with
    | is hv => cases hv with
      | tup h1 h2 =>
        refine .inr (.inl ⟨_, _, rfl, s.t h1, fun c => ?_, fun c p hp => ?_⟩)
        · rw [h2.length] at c
          rw [cutD_whole c] at q
          exact q _ I H (New.refl I H) s (.tup h1 h2)
        · obtain ⟨n, e⟩ := alloc (o := .tup _) s hp
          exact q _ _ _ n e (.tup (st_of upd_same) ((h2.cut l h).mono n.i))
  · split at e
    · rename_i hz
      cases e
      intro I H v s hv Q q
      obtain rfl := hv.s
      exact .inr (.inr ⟨_, rfl, hz, q _ I H (New.refl I H) s (.str _)⟩)
    · cases e
  · cases e
end FD

/-! FS3: readings with effects: expressions, arguments, statements. -/
namespace FD
open PySem PySem.Spec PyProof.Rows L2

def Ef (K : PySem.W.Frag) (te : TE) (f : List T → Option (T × List T)) : Prop := ∀ γ t γ', f γ = some (t, γ') → ∀ σ I H L, WS K γ σ I H L → ∀ Q : VK, (∀ v I' H' L', WS K (t :: γ') (some v :: σ) I' H' L' → Step I H L I' H' L' → Q v H') → te σ H Q
def EfT (K : PySem.W.Frag) (tt : TT) (f : List T → Option (Bool × List T)) : Prop := ∀ γ b γ', f γ = some (b, γ') → ∀ σ I H L, WS K γ σ I H L → ∀ Q : Bool → Hp → Prop, (∀ I' H' L', WS K γ' σ I' H' L' → Step I H L I' H' L' → Q b H') → tt σ H Q
/-- borrowed slots among arguments -/
def Bor (σ : Sg) : List (Option Nat) → List V → Prop
  | [], vs => vs = []
  | none :: bs, vs => ∃ v ws, vs = v :: ws ∧ Bor σ bs ws
  | some i :: bs, vs => ∃ v ws, vs = v :: ws ∧ σ[i]? = some (some v) ∧ Bor σ bs ws
def EfA (K : PySem.W.Frag) (ta : TA) (bs : List (Option Nat)) (f : List T → Option (List T × List T)) : Prop := ∀ γ ts γ', f γ = some (ts, γ') → ∀ σ I H L, WS K γ σ I H L → ∀ Q : List V → Hp → Prop, (∀ vs I' H' L', WS K (ts ++ γ') (vs.map some ++ σ) I' H' L' → Step I H L I' H' L' → Bor σ bs vs → Q vs H') → ta σ H Q
section
variable {K : PySem.W.Frag} {ta tb tc te to : TE} {tt tu : TT} {I I' H H' : Hp} {γ γ' : List T} {σ : Sg} {L : List Addr} {t : T} {v : V} {x : D}
theorem New.stp {L : List Addr} (n : New I H I' H') : Step I H L I' H' L := n.step L
/-! from pure readings -/
def eP (f : List T → Option D) : List T → Option (T × List T) := fun γ => (f γ).map fun x => (.d x, γ)
theorem ef_p {f : List T → Option D} (h : Pu K te f) : Ef K te (eP f) := fun γ t γ' e σ I H L w Q k => by
  unfold eP at e
  cases e1 : f γ with
  | none => simp [e1] at e
  | some x =>
    simp [e1] at e
    obtain ⟨rfl, rfl⟩ := e
    exact h γ x e1 σ I H L w Q fun v I' H' n s hv => k v I' H' L ((w.new n s).front hv) n.stp
def eT (f : List T → Option Bool) : List T → Option (Bool × List T) := fun γ => (f γ).map fun b => (b, γ)
theorem eft_p {f : List T → Option Bool} (h : PuT K tt f) : EfT K tt (eT f) := fun γ t γ' e σ I H L w Q k => by
  unfold eT at e
  cases e1 : f γ with
  | none => simp [e1] at e
  | some x =>
    simp [e1] at e
    obtain ⟨rfl, rfl⟩ := e
    exact h γ x e1 σ I H L w Q fun I' H' n s => k I' H' L (w.new n s) n.stp
/-! arguments -/
def aNil : List T → Option (List T × List T) := fun γ => some ([], γ)
theorem efa_nil : EfA K tNil [] aNil := fun γ ts γ' e σ I H L w Q k => by
  cases e
  exact k [] I H L w (Step.refl I H L) rfl
def aCons (f : List T → Option (T × List T)) (g : List T → Option (List T × List T)) : List T → Option (List T × List T) := fun γ => (f γ).bind fun p => (g p.2).map fun q => (p.1 :: q.1, q.2)
theorem efa_cons {tr : TA} {bs : List (Option Nat)} {f : List T → Option (T × List T)} {g : List T → Option (List T × List T)} (hf : Ef K ta f) (hg : EfA K tr bs g) : EfA K (tCons ta tr) (none :: bs) (aCons f g) := fun γ ts γ' e σ I H L w Q k => by
  unfold aCons at e
  obtain ⟨⟨t, γ1⟩, e1, e⟩ := Option.bind_eq_some_iff.mp e
  cases e2 : g γ1 with
  | none => simp [e2] at e
  | some q =>
    obtain ⟨us, γ2⟩ := q
    simp [e2] at e
    obtain ⟨rfl, rfl⟩ := e
    refine hf γ t γ1 e1 σ I H L w _ fun v I1 H1 L1 w1 s1 => ?_
    obtain ⟨M1, M2, rfl, w2, hold⟩ := w1.hold
    refine hg γ1 us γ2 e2 σ I1 H1 M2 w2 _ fun vs I3 H3 L3 w3 s3 hb => ?_
    obtain ⟨w4, s4⟩ := hold w3 s3
    exact k (v :: vs) I3 H3 _ w4 (s1.trans s4) ⟨v, vs, rfl, hb⟩
/-- a slot's own thing, handed on -/
def aBor (i : Nat) (g : List T → Option (List T × List T)) : List T → Option (List T × List T) := fun γ => match γ[i]? with
  | some .em => none
  | some _ => (g γ).map fun q => (.em :: q.1, q.2)
  | none => none
theorem efa_bor {tr : TA} {bs : List (Option Nat)} {g : List T → Option (List T × List T)} (i : Nat) (hg : EfA K tr bs g) : EfA K (tCons (tVar i) tr) (some i :: bs) (aBor i g) := fun γ ts γ' e σ I H L w Q k => by
  have : ∃ t, γ[i]? = some t ∧ t ≠ .em ∧ (g γ).map (fun q => (T.em :: q.1, q.2)) = some (ts, γ') := by
    unfold aBor at e
    split at e
    · cases e
    · rename_i u ne h; exact ⟨u, h, fun z => ne z, e⟩
    · cases e
  obtain ⟨u, h1, h2, e⟩ := this
  obtain ⟨v, h3, _⟩ := w.env.get h1 h2
  cases e2 : g γ with
  | none => simp [e2] at e
  | some q =>
    obtain ⟨us, γ2⟩ := q
    simp [e2] at e
    obtain ⟨rfl, rfl⟩ := e
    refine ⟨v, h3, hg γ us γ2 e2 σ I H L w _ fun vs I3 H3 L3 w3 s3 hb => ?_⟩
    exact k (v :: vs) I3 H3 _ ⟨.em _ w3.env, w3.nd, w3.fr, w3.sub⟩ s3 ⟨v, vs, rfl, h3, hb⟩
theorem efa_p {tr : TA} {bs : List (Option Nat)} {f : List T → Option D} {g : List T → Option (List T × List T)} (hf : Pu K ta f) (hg : EfA K tr bs g) : EfA K (tCons ta tr) (none :: bs) (aCons (eP f) g) := efa_cons (ef_p hf) hg
/-- what the arguments are, read -/
def res1 (γ : List T) : Option Nat → T → Option D
  | some i, _ => (γ[i]?).bind T.top
  | none, t => t.toD
def resA (γ : List T) : List (Option Nat) → List T → Option (List D)
  | [], [] => some []
  | b :: bs, t :: ts => (res1 γ b t).bind fun x => (resA γ bs ts).map (x :: ·)
  | _, _ => none
inductive TpA (K : PySem.W.Frag) (I H : Hp) : List V → List D → Prop
  | nil : TpA K I H [] []
  | cons {v : V} {vs : List V} {x : D} {xs : List D} : Tp K I H v x → TpA K I H vs xs → TpA K I H (v :: vs) (x :: xs)
theorem TpA.mono (e : Ex I I') : ∀ {vs : List V} {xs : List D}, TpA K I H vs xs → TpA K I' H vs xs
  | _, _, .nil => .nil
  | _, _, .cons a b => .cons (a.mono e) (b.mono e)
theorem res_ok : ∀ {bs : List (Option Nat)} {ts : List T} {vs : List V} {xs : List D} {I : Hp} {L : List Addr}, WS K (ts ++ γ) (vs.map some ++ σ) I H L → Bor σ bs vs → resA γ bs ts = some xs → ∃ I' L', WS K γ σ I' H L' ∧ Step I H L I' H L' ∧ TpA K I' H vs xs
  | [], [], vs, xs, I, L, w, hb, e => by
    cases (show vs = [] from hb)
    cases e
    exact ⟨I, L, w, Step.refl I H L, .nil⟩
  | [], _ :: _, _, _, _, _, _, _, e => by simp [resA] at e
  | _ :: _, [], _, _, _, _, _, _, e => by simp [resA] at e
  | b :: bs, t :: ts, vs, xs, I, L, w, hb, e => by
    unfold resA at e
    obtain ⟨x, e1, e⟩ := Option.bind_eq_some_iff.mp e
    cases e2 : resA γ bs ts with
    | none => simp [e2] at e
    | some ys =>
      simp [e2] at e
      subst e
      cases b with
      | none =>
        obtain ⟨v, ws, rfl, hb⟩ := hb
        obtain ⟨I1, L1, w1, s1, hv⟩ := WS.frz (σ := ws.map some ++ σ) w (show t.toD = some x from e1)
        obtain ⟨I2, L2, w2, s2, hvs⟩ := res_ok w1 hb e2
        exact ⟨I2, L2, w2, s1.trans s2, .cons (.is (hv.mono s2.i)) hvs⟩
      | some i =>
        obtain ⟨v, ws, rfl, hi, hb⟩ := hb
        obtain ⟨L1, w1, s1, _⟩ := WS.tail (σ := ws.map some ++ σ) w
        obtain ⟨I2, L2, w2, s2, hvs⟩ := res_ok w1 hb e2
        refine ⟨I2, L2, w2, s1.trans s2, .cons ?_ hvs⟩
        have e1' : (γ[i]?).bind T.top = some x := e1
        cases e3 : γ[i]? with
        | none => simp [e3] at e1'
        | some u =>
          simp [e3] at e1'
          have hu : u ≠ .em := fun z => by subst z; simp [T.top] at e1'
          obtain ⟨v', h1, _, _, _, _, h2, _⟩ := w2.env.get e3 hu
          rw [hi] at h1
          cases h1
          exact h2.top e1'
/-- all arguments data -/
theorem TpA.is : ∀ {I : Hp} {vs : List V} {xs : List D}, Ex I H → TpA K I H vs xs → ∃ I', Ex I I' ∧ Ex I' H ∧ IsA K I' vs xs
  | I, _, _, s, .nil => ⟨I, Ex.refl I, s, .nil⟩
  | I, _, _, s, .cons a b => by
    obtain ⟨I1, e1, s1, h1⟩ := a.frz s
    obtain ⟨I2, e2, s2, h2⟩ := TpA.is s1 (b.mono e1)
    exact ⟨I2, e1.trans e2, s2, .cons (h1.mono e2) h2⟩
/-! operators, built-ins over arguments -/
def eOp (bs : List (Option Nat)) (o : D → D → Option D) (g : List T → Option (List T × List T)) : List T → Option (T × List T) := fun γ => (g γ).bind fun q => (resA q.2 bs q.1).bind fun xs => match xs with
  | [x, y] => (o x y).map fun z => (.d z, q.2)
  | _ => none
theorem op_of {bs : List (Option Nat)} {o : D → D → Option D} {g : List T → Option (List T × List T)} {r : R2} {ts : TA} (hg : EfA K ts bs g) (ho : ∀ x y z, o x y = some z → OpT K r x y z) : ∀ γ t γ', eOp bs o g γ = some (t, γ') → ∀ σ I H L, WS K γ σ I H L → ∀ Q : VK, (∀ v I' H' L', WS K (t :: γ') (some v :: σ) I' H' L' → Step I H L I' H' L' → Q v H') → ts σ H fun vs H2 => match vs with | [x, y] => r x y H2 Q | _ => False := fun γ t γ' e σ I H L w Q k => by
  unfold eOp at e
  obtain ⟨⟨us, γ1⟩, e1, e⟩ := Option.bind_eq_some_iff.mp e
  obtain ⟨xs, e2, e⟩ := Option.bind_eq_some_iff.mp e
  have : ∃ x y z, xs = [x, y] ∧ o x y = some z ∧ t = .d z ∧ γ' = γ1 := by
    split at e
    · rename_i x y
      cases e3 : o x y with
      | none => simp [e3] at e
      | some z => simp [e3] at e; exact ⟨x, y, z, rfl, e3, e.1.symm, e.2.symm⟩
    · cases e
  obtain ⟨x, y, z, rfl, e3, rfl, rfl⟩ := this
  refine hg γ us γ' e1 σ I H L w _ fun vs I1 H1 L1 w1 s1 hb => ?_
  obtain ⟨I2, L2, w2, s2, hvs⟩ := res_ok w1 hb e2
  cases hvs with
  | cons h1 h2 =>
    cases h2 with
    | cons h2 h3 =>
      cases h3
      exact ho x y z e3 I2 H1 _ _ w2.sub h1 h2 Q fun u I3 H3 n3 s3 hu => k u I3 H3 L2 ((w2.new n3 s3).front hu) ((s1.trans s2).trans n3.stp)
theorem ef_op {bs : List (Option Nat)} {o : D → D → Option D} {g : List T → Option (List T × List T)} {r : R2} (hg : EfA K (tCons ta (tCons tb tNil)) bs g) (ho : ∀ x y z, o x y = some z → OpT K r x y z) : Ef K (tOp r ta tb) (eOp bs o g) := fun γ t γ' e σ I H L w Q k => op_of hg ho γ t γ' e σ I H L w Q k
theorem ef_call2 {bs : List (Option Nat)} {o : D → D → Option D} {g : List T → Option (List T × List T)} {r : List V → Hp → VK → Prop} (hg : EfA K (tCons ta (tCons tb tNil)) bs g) (ho : ∀ x y z, o x y = some z → OpT K (fun v w => r [v, w]) x y z) : Ef K (tCB r (tCons ta (tCons tb tNil))) (eOp bs o g) := fun γ t γ' e σ I H L w Q k => by
  exact op_of (r := fun v w => r [v, w]) hg ho γ t γ' e σ I H L w Q k
def eUn (bs : List (Option Nat)) (o : D → Option D) (g : List T → Option (List T × List T)) : List T → Option (T × List T) := fun γ => (g γ).bind fun q => (resA q.2 bs q.1).bind fun xs => match xs with
  | [x] => (o x).map fun z => (.d z, q.2)
  | _ => none
theorem un_of {bs : List (Option Nat)} {o : D → Option D} {g : List T → Option (List T × List T)} {r : V → Hp → VK → Prop} {ts : TA} (hg : EfA K ts bs g) (ho : ∀ x z, o x = some z → CallT K r x z) : ∀ γ t γ', eUn bs o g γ = some (t, γ') → ∀ σ I H L, WS K γ σ I H L → ∀ Q : VK, (∀ v I' H' L', WS K (t :: γ') (some v :: σ) I' H' L' → Step I H L I' H' L' → Q v H') → ts σ H fun vs H2 => match vs with | [x] => r x H2 Q | _ => False := fun γ t γ' e σ I H L w Q k => by
  unfold eUn at e
  obtain ⟨⟨us, γ1⟩, e1, e⟩ := Option.bind_eq_some_iff.mp e
  obtain ⟨xs, e2, e⟩ := Option.bind_eq_some_iff.mp e
  have : ∃ x z, xs = [x] ∧ o x = some z ∧ t = .d z ∧ γ' = γ1 := by
    split at e
    · rename_i x
      cases e3 : o x with
      | none => simp [e3] at e
      | some z => simp [e3] at e; exact ⟨x, z, rfl, e3, e.1.symm, e.2.symm⟩
    · cases e
  obtain ⟨x, z, rfl, e3, rfl, rfl⟩ := this
  refine hg γ us γ' e1 σ I H L w _ fun vs I1 H1 L1 w1 s1 hb => ?_
  obtain ⟨I2, L2, w2, s2, hvs⟩ := res_ok w1 hb e2
  cases hvs with
  | cons h1 h3 =>
    cases h3
    exact ho x z e3 I2 H1 _ w2.sub h1 Q fun u I3 H3 n3 s3 hu => k u I3 H3 L2 ((w2.new n3 s3).front hu) ((s1.trans s2).trans n3.stp)
theorem ef_un {bs : List (Option Nat)} {o : D → Option D} {g : List T → Option (List T × List T)} {r : V → Hp → VK → Prop} (hg : EfA K (tCons ta tNil) bs g) (ho : ∀ x z, o x = some z → CallT K r x z) : Ef K (tUn r ta) (eUn bs o g) := fun γ t γ' e σ I H L w Q k => un_of hg ho γ t γ' e σ I H L w Q k
theorem ef_call1 {bs : List (Option Nat)} {o : D → Option D} {g : List T → Option (List T × List T)} {r : List V → Hp → VK → Prop} (hg : EfA K (tCons ta tNil) bs g) (ho : ∀ x z, o x = some z → CallT K (fun v => r [v]) x z) : Ef K (tCB r (tCons ta tNil)) (eUn bs o g) := fun γ t γ' e σ I H L w Q k => by
  exact un_of (r := fun v => r [v]) hg ho γ t γ' e σ I H L w Q k
/-- a built-in of many data -/
def eCB (bs : List (Option Nat)) (o : List D → Option D) (g : List T → Option (List T × List T)) : List T → Option (T × List T) := fun γ => (g γ).bind fun q => (resA q.2 bs q.1).bind fun xs => (o xs).map fun z => (.d z, q.2)
/-- arguments that are data of their own -/
def resI : List (Option Nat) → List T → Option (List D)
  | [], [] => some []
  | none :: bs, t :: ts => t.toD.bind fun x => (resI bs ts).map (x :: ·)
  | _, _ => none
theorem resI_ok : ∀ {bs : List (Option Nat)} {ts : List T} {vs : List V} {xs : List D} {I : Hp} {L : List Addr}, WS K (ts ++ γ) (vs.map some ++ σ) I H L → Bor σ bs vs → resI bs ts = some xs → ∃ I' L', WS K γ σ I' H L' ∧ Step I H L I' H L' ∧ IsA K I' vs xs
  | [], [], vs, xs, I, L, w, hb, e => by
    cases (show vs = [] from hb)
    cases e
    exact ⟨I, L, w, Step.refl I H L, .nil⟩
  | [], _ :: _, _, _, _, _, _, _, e => by simp [resI] at e
  | _ :: _, [], _, _, _, _, _, _, e => by simp [resI] at e
  | some _ :: bs, t :: ts, vs, xs, I, L, w, hb, e => by simp [resI] at e
  | none :: bs, t :: ts, vs, xs, I, L, w, hb, e => by
    unfold resI at e
    obtain ⟨x, e1, e⟩ := Option.bind_eq_some_iff.mp e
    cases e2 : resI bs ts with
    | none => simp [e2] at e
    | some ys =>
      simp [e2] at e
      subst e
      obtain ⟨v, ws, rfl, hb⟩ := hb
      obtain ⟨I1, L1, w1, s1, hv⟩ := WS.frz (σ := ws.map some ++ σ) w e1
      obtain ⟨I2, L2, w2, s2, hvs⟩ := resI_ok w1 hb e2
      exact ⟨I2, L2, w2, s1.trans s2, .cons (hv.mono s2.i) hvs⟩
def eTup (bs : List (Option Nat)) (g : List T → Option (List T × List T)) : List T → Option (T × List T) := fun γ => (g γ).bind fun q => (resI bs q.1).bind fun xs => if xs.length ≤ sizeLine then some (.d (.tup xs), q.2) else none
theorem ef_tup {tr : TA} {bs : List (Option Nat)} {g : List T → Option (List T × List T)} (hg : EfA K tr bs g) : Ef K (tTup tr) (eTup bs g) := fun γ t γ' e σ I H L w Q k => by
  unfold eTup at e
  obtain ⟨⟨us, γ1⟩, e1, e⟩ := Option.bind_eq_some_iff.mp e
  obtain ⟨xs, e2, e⟩ := Option.bind_eq_some_iff.mp e
  split at e
  · rename_i hz
    cases e
    refine hg γ us γ1 e1 σ I H L w _ fun vs I1 H1 L1 w1 s1 hb => ?_
    obtain ⟨I2, L2, w2, s2, hvs⟩ := resI_ok w1 hb e2
    refine ⟨by rw [hvs.length]; exact hz, fun p hp => ?_⟩
    obtain ⟨n, s⟩ := alloc (o := .tup vs) w2.sub hp
    exact k _ _ _ L2 ((w2.new n s).front (.tup (st_of upd_same) (hvs.mono n.i))) ((s1.trans s2).trans n.stp)
  · cases e
/-- a new thing of one's own at p -/
theorem WS.lay {p : Addr} {o : HO} (w : WS K γ σ I H L) (hp : H p = none) (ht : ∀ H', H' p = some o → Ow K I H' (.ref p) t [p]) : WS K (t :: γ) (some (.ref p) :: σ) I (upd H p o) (p :: L) ∧ Step I H L I (upd H p o) (p :: L) := by
  have hpL : p ∉ L := fun h => w.live p h hp
  refine ⟨⟨.cons (L1 := [p]) (ht _ upd_same) (w.env.keep (Ex.refl I) fun a h => upd_ne fun e => hpL (e ▸ h)), List.nodup_cons.mpr ⟨hpL, w.nd⟩, fun a h => ?_, fun a u e => ?_⟩, ⟨Ex.refl I, fun a u e _ => Ex.new hp a u e, fun a h => ?_, fun a u e => .inl e⟩⟩
  · rcases List.mem_cons.mp h with rfl | h
    · exact w.sub.back hp
    · exact w.fr a h
  · exact Ex.new hp a u (w.sub a u e)
  · rcases List.mem_cons.mp h with rfl | h
    · exact .inr hp
    · exact .inl h
/-- [a, b, ..], one's own -/
def eLst (bs : List (Option Nat)) (g : List T → Option (List T × List T)) : List T → Option (T × List T) := fun γ => (g γ).bind fun q => (resI bs q.1).bind fun xs => if xs.length ≤ sizeLine then some (.lst xs, q.2) else none
theorem ef_lst {tr : TA} {bs : List (Option Nat)} {g : List T → Option (List T × List T)} (hg : EfA K tr bs g) : Ef K (tLst tr) (eLst bs g) := fun γ t γ' e σ I H L w Q k => by
  unfold eLst at e
  obtain ⟨⟨us, γ1⟩, e1, e⟩ := Option.bind_eq_some_iff.mp e
  obtain ⟨xs, e2, e⟩ := Option.bind_eq_some_iff.mp e
  split at e
  · rename_i hz
    cases e
    refine hg γ us γ1 e1 σ I H L w _ fun vs I1 H1 L1 w1 s1 hb => ?_
    obtain ⟨I2, L2, w2, s2, hvs⟩ := resI_ok w1 hb e2
    refine ⟨by rw [hvs.length]; exact hz, fun p hp => ?_⟩
    obtain ⟨w3, s3⟩ := w2.lay (o := .lst vs) (t := .lst xs) hp fun H' h => .lst h hvs
    exact k _ _ _ _ w3 ((s1.trans s2).trans s3)
  · cases e
/-- list(e), one's own -/
def eList (f : List T → Option D) : List T → Option (T × List T) := fun γ => (f γ).bind fun x => (items x).map fun xs => (.lst xs, γ)
theorem ef_list {f : List T → Option D} (hf : Cu K ta f) : Ef K (tCB (rListOf K) (tCons ta tNil)) (eList f) := fun γ t γ' e σ I H L w Q k => by
  unfold eList at e
  obtain ⟨x, e1, e⟩ := Option.bind_eq_some_iff.mp e
  cases e2 : items x with
  | none => simp [e2] at e
  | some xs =>
    simp [e2] at e
    obtain ⟨rfl, rfl⟩ := e
    refine hf γ x e1 σ I H L w _ fun v I1 H1 n1 s1 hv => ?_
    obtain ⟨a, vs, rfl, h1, h2⟩ := hv.seq s1 e2
    refine ⟨a, vs, rfl, h1, fun p hp => ?_⟩
    have w1 := w.new n1 s1
    obtain ⟨w3, s3⟩ := w1.lay (o := .lst vs) (t := .lst xs) hp fun H' h => .lst h h2
    exact k _ _ _ _ w3 (n1.stp.trans s3)
/-- {} -/
def eDic : List T → Option (T × List T) := fun γ => some (.dic [] [], γ)
theorem ef_dic : Ef K tDNewK eDic := fun γ t γ' e σ I H L w Q k => by
  cases e
  intro p hp
  obtain ⟨w3, s3⟩ := w.lay (o := .dK []) (t := .dic [] []) hp fun H' h => .dic (L := []) h rfl .nil
  exact k _ _ _ _ w3 s3
/-- a slot's own thing frozen: its value -/
def eFrz (i : Nat) : List T → Option (T × List T) := fun γ => (γ[i]?).bind fun t => t.toD.map fun x => (.d x, γ.set i (.d x))
theorem WS.stepSlot {i : Nat} (w : WS K γ σ I H L) (h : γ[i]? = some t) (ht : t ≠ .em) : ∃ v, σ[i]? = some (some v) ∧ ∃ Li, Ow K I H v t Li ∧ Li.Nodup ∧ (∀ a ∈ Li, I a = none) ∧
    ∀ (I' H' : Hp) (t' : T) (Li' : List Addr), Step I H Li I' H' Li' → Li'.Nodup → (∀ a ∈ Li', I' a = none) → Ex I' H' → Ow K I' H' v t' Li' → ∃ L', WS K (γ.set i t') σ I' H' L' ∧ Step I H L I' H' L' := by
  obtain ⟨v0, v, t0, h1, h2, h3, Li, h4, h5, h6, h7⟩ := w.place (i := i) (p := []) (u := t) (by unfold gAt; rw [h]; rfl) ht
  cases h3
  rw [h] at h2
  cases h2
  refine ⟨_, h1, Li, h4, h5, h6, fun I' H' t' Li' a b c d e => ?_⟩
  have := h7 I' H' t' Li' a b c d e
  unfold gPut at this
  rw [h] at this
  exact this
theorem WS.frzSlot {i : Nat} (w : WS K γ σ I H L) (h : γ[i]? = some t) (e : t.toD = some x) : ∃ v I' L', σ[i]? = some (some v) ∧ Is K I' v x ∧ WS K (γ.set i (.d x)) σ I' H L' ∧ Step I H L I' H L' := by
  have ht : t ≠ .em := fun z => by subst z; simp [T.toD] at e
  obtain ⟨v, h1, Li, h2, h3, h4, h5⟩ := w.stepSlot h ht
  obtain ⟨I', f, q⟩ := h2.frz e h3 h4 w.sub
  obtain ⟨L', w', s'⟩ := h5 I' H (.d x) [] ⟨f.i, fun _ _ h _ => h, fun a h => by simp at h, fun a o h => (f.n a o h).elim .inl fun z => .inr (.inl z)⟩ List.nodup_nil (fun a h => by simp at h) f.s (.d q)
  exact ⟨v, I', L', h1, q, w', s'⟩
theorem ef_frz (i : Nat) : Ef K (tVar i) (eFrz i) := fun γ t γ' e σ I H L w Q k => by
  unfold eFrz at e
  obtain ⟨u, e1, e⟩ := Option.bind_eq_some_iff.mp e
  cases e2 : u.toD with
  | none => simp [e2] at e
  | some x =>
    simp [e2] at e
    obtain ⟨rfl, rfl⟩ := e
    obtain ⟨v, I', L', h1, h2, w', s'⟩ := w.frzSlot e1 e2
    exact ⟨v, h1, k v I' H L' (w'.front h2) s'⟩
/-! tests -/
def eTest (f : List T → Option (T × List T)) : List T → Option (Bool × List T) := fun γ => (f γ).bind fun q => match q.1 with
  | .d (.bl b) => some (b, q.2)
  | _ => none
theorem et_of {f : List T → Option (T × List T)} {b : Bool} (e : eTest f γ = some (b, γ')) : f γ = some (.d (.bl b), γ') := by
  unfold eTest at e
  obtain ⟨⟨t, γ1⟩, e1, e⟩ := Option.bind_eq_some_iff.mp e
  split at e
  · rename_i b' h
    cases e
    dsimp only at h
    subst h
    exact e1
  · cases e
theorem eft_test {f : List T → Option (T × List T)} (hf : Ef K te f) : EfT K (tTest te) (eTest f) := fun γ b γ' e σ I H L w Q k => hf γ _ _ (et_of e) σ I H L w _ fun v I' H' L' w' s => by
  obtain ⟨L2, w2, s2, h2⟩ := w'.tail
  obtain ⟨rfl, v', e1, hv⟩ := h2 _ rfl
  cases e1
  cases hv
  exact ⟨b, rfl, k I' H' _ w2 s⟩
theorem eft_b {f : List T → Option (T × List T)} (hf : Ef K te f) : EfT K (tB te) (eTest f) := fun γ b γ' e σ I H L w Q k => hf γ _ _ (et_of e) σ I H L w _ fun v I' H' L' w' s => by
  obtain ⟨L2, w2, s2, h2⟩ := w'.tail
  obtain ⟨rfl, v', e1, hv⟩ := h2 _ rfl
  cases e1
  cases hv
  exact ⟨b, rfl, k I' H' _ w2 s⟩
def eNot (p : List T → Option (Bool × List T)) : List T → Option (Bool × List T) := fun γ => (p γ).map fun q => (!q.1, q.2)
theorem eft_not {p : List T → Option (Bool × List T)} (hp : EfT K tt p) : EfT K (tNot tt) (eNot p) := fun γ b γ' e σ I H L w Q k => by
  unfold eNot at e
  cases e1 : p γ with
  | none => rw [e1] at e; cases e
  | some q =>
    rw [e1] at e
    cases e
    exact hp γ _ _ e1 σ I H L w _ fun I' H' L' w' s => k I' H' L' w' s
def eAnd (p q : List T → Option (Bool × List T)) : List T → Option (Bool × List T) := fun γ => (p γ).bind fun a => if a.1 = true then q a.2 else some (false, a.2)
theorem eft_and {p q : List T → Option (Bool × List T)} (hp : EfT K tt p) (hq : EfT K tu q) : EfT K (tAnd tt tu) (eAnd p q) := fun γ b γ' e σ I H L w Q k => by
  unfold eAnd at e
  obtain ⟨⟨a, γ1⟩, e1, e2⟩ := Option.bind_eq_some_iff.mp e
  refine hp γ a γ1 e1 σ I H L w _ fun I1 H1 L1 w1 s1 => ?_
  cases a with
  | true =>
    show tu σ H1 Q
    exact hq γ1 b γ' (by simpa using e2) σ I1 H1 L1 w1 Q fun I2 H2 L2 w2 s2 => k I2 H2 L2 w2 (s1.trans s2)
  | false =>
    show Q false H1
    simp at e2
    obtain ⟨rfl, rfl⟩ := e2
    exact k I1 H1 L1 w1 s1
def eOr (p q : List T → Option (Bool × List T)) : List T → Option (Bool × List T) := fun γ => (p γ).bind fun a => if a.1 = true then some (true, a.2) else q a.2
theorem eft_or {p q : List T → Option (Bool × List T)} (hp : EfT K tt p) (hq : EfT K tu q) : EfT K (tOr tt tu) (eOr p q) := fun γ b γ' e σ I H L w Q k => by
  unfold eOr at e
  obtain ⟨⟨a, γ1⟩, e1, e2⟩ := Option.bind_eq_some_iff.mp e
  refine hp γ a γ1 e1 σ I H L w _ fun I1 H1 L1 w1 s1 => ?_
  cases a with
  | false =>
    show tu σ H1 Q
    exact hq γ1 b γ' (by simpa using e2) σ I1 H1 L1 w1 Q fun I2 H2 L2 w2 s2 => k I2 H2 L2 w2 (s1.trans s2)
  | true =>
    show Q true H1
    simp at e2
    obtain ⟨rfl, rfl⟩ := e2
    exact k I1 H1 L1 w1 s1
/-- and, or as values -/
def eAndV (f g : List T → Option (T × List T)) : List T → Option (T × List T) := fun γ => (f γ).bind fun q => match q.1 with
  | .d (.bl true) => (g q.2).bind fun r => match r.1 with
    | .d (.bl b) => some (.d (.bl b), r.2)
    | _ => none
  | .d (.bl false) => some (.d (.bl false), q.2)
  | _ => none
theorem ef_andV {f g : List T → Option (T × List T)} (hf : Ef K ta f) (hg : Ef K tb g) : Ef K (tAndV ta tb) (eAndV f g) := fun γ t γ' e σ I H L w Q k => by
  unfold eAndV at e
  obtain ⟨⟨t1, γ1⟩, e1, e⟩ := Option.bind_eq_some_iff.mp e
  refine hf γ t1 γ1 e1 σ I H L w _ fun v I1 H1 L1 w1 s1 => ?_
  obtain ⟨L2, w2, s2, h2⟩ := w1.tail
  dsimp only at e
  split at e
  · obtain ⟨rfl, v', ev, hv⟩ := h2 _ rfl
    cases ev
    cases hv
    refine ⟨true, rfl, ?_⟩
    show tb σ H1 Q
    obtain ⟨⟨t3, γ3⟩, e3, e⟩ := Option.bind_eq_some_iff.mp e
    dsimp only at e
    split at e
    · cases e
      exact hg γ1 _ _ e3 σ I1 H1 _ w2 Q fun v I3 H3 L3 w3 s3 => k v I3 H3 L3 w3 (s1.trans s3)
    · cases e
  · obtain ⟨rfl, v', ev, hv⟩ := h2 _ rfl
    cases ev
    cases hv
    cases e
    exact ⟨false, rfl, k _ I1 H1 _ w1 s1⟩
  · cases e
def eOrV (f g : List T → Option (T × List T)) : List T → Option (T × List T) := fun γ => (f γ).bind fun q => match q.1 with
  | .d (.bl false) => (g q.2).bind fun r => match r.1 with
    | .d (.bl b) => some (.d (.bl b), r.2)
    | _ => none
  | .d (.bl true) => some (.d (.bl true), q.2)
  | _ => none
theorem ef_orV {f g : List T → Option (T × List T)} (hf : Ef K ta f) (hg : Ef K tb g) : Ef K (tOrV ta tb) (eOrV f g) := fun γ t γ' e σ I H L w Q k => by
  unfold eOrV at e
  obtain ⟨⟨t1, γ1⟩, e1, e⟩ := Option.bind_eq_some_iff.mp e
  refine hf γ t1 γ1 e1 σ I H L w _ fun v I1 H1 L1 w1 s1 => ?_
  obtain ⟨L2, w2, s2, h2⟩ := w1.tail
  dsimp only at e
  split at e
  · obtain ⟨rfl, v', ev, hv⟩ := h2 _ rfl
    cases ev
    cases hv
    refine ⟨false, rfl, ?_⟩
    show tb σ H1 Q
    obtain ⟨⟨t3, γ3⟩, e3, e⟩ := Option.bind_eq_some_iff.mp e
    dsimp only at e
    split at e
    · cases e
      exact hg γ1 _ _ e3 σ I1 H1 _ w2 Q fun v I3 H3 L3 w3 s3 => k v I3 H3 L3 w3 (s1.trans s3)
    · cases e
  · obtain ⟨rfl, v', ev, hv⟩ := h2 _ rfl
    cases ev
    cases hv
    cases e
    exact ⟨true, rfl, k _ I1 H1 _ w1 s1⟩
  · cases e
def eNotV (f : List T → Option (T × List T)) : List T → Option (T × List T) := fun γ => (f γ).bind fun q => match q.1 with
  | .d (.bl b) => some (.d (.bl (!b)), q.2)
  | _ => none
theorem ef_notV {f : List T → Option (T × List T)} (hf : Ef K ta f) : Ef K (tNotV ta) (eNotV f) := fun γ t γ' e σ I H L w Q k => by
  unfold eNotV at e
  obtain ⟨⟨t1, γ1⟩, e1, e⟩ := Option.bind_eq_some_iff.mp e
  refine hf γ t1 γ1 e1 σ I H L w _ fun v I1 H1 L1 w1 s1 => ?_
  obtain ⟨L2, w2, s2, h2⟩ := w1.tail
  dsimp only at e
  split at e
  · cases e
    obtain ⟨rfl, v', ev, hv⟩ := h2 _ rfl
    cases ev
    cases hv
    exact ⟨_, rfl, k _ I1 H1 _ (w2.front (.bl _)) s1⟩
  · cases e
def eIf (p : List T → Option (Bool × List T)) (f g : List T → Option (T × List T)) : List T → Option (T × List T) := fun γ => (p γ).bind fun a => if a.1 = true then f a.2 else g a.2
theorem ef_if {p : List T → Option (Bool × List T)} {f g : List T → Option (T × List T)} (hp : EfT K tt p) (hf : Ef K ta f) (hg : Ef K tb g) : Ef K (tIf tt ta tb) (eIf p f g) := fun γ t γ' e σ I H L w Q k => by
  unfold eIf at e
  obtain ⟨⟨a, γ1⟩, e1, e2⟩ := Option.bind_eq_some_iff.mp e
  refine hp γ a γ1 e1 σ I H L w _ fun I1 H1 L1 w1 s1 => ?_
  cases a with
  | true =>
    show ta σ H1 Q
    exact hf γ1 t γ' (by simpa using e2) σ I1 H1 L1 w1 Q fun v I2 H2 L2 w2 s2 => k v I2 H2 L2 w2 (s1.trans s2)
  | false =>
    show tb σ H1 Q
    exact hg γ1 t γ' (by simpa using e2) σ I1 H1 L1 w1 Q fun v I2 H2 L2 w2 s2 => k v I2 H2 L2 w2 (s1.trans s2)
end
end FD

/-! FS4: calls. -/
namespace FD
open PySem PySem.Spec PyProof.Rows L2

inductive RF where
  | ret (r : T) (post : List T) | exc (C : Addr) (fs : List (Str × D)) (post : List T)
abbrev FN := List T → Option RF
/-- an exception's own dict -/
inductive IsX (K : PySem.W.Frag) (I : Hp) : List (Str × V) → List (Str × D) → Prop
  | nil : IsX K I [] []
  | cons {f : Str} {v : V} {x : D} {kvs : List (Str × V)} {fs : List (Str × D)} : Is K I v x → IsX K I kvs fs → IsX K I ((f, v) :: kvs) ((f, x) :: fs)
def XAt (K : PySem.W.Frag) (I H : Hp) (L : List Addr) (d : Addr) (fs : List (Str × D)) : Prop := ∃ kvs, H d = some (.xd kvs) ∧ d ∉ L ∧ I d = none ∧ IsX K I kvs fs
def PostF (K : PySem.W.Frag) (vs : List V) (I H : Hp) (L : List Addr) (Q : VK) (E : XK) : RF → Prop
  | .ret r post => ∀ v I' H' L', WS K (r :: post) (some v :: vs.map some) I' H' L' → Step I H L I' H' L' → Q v H'
  | .exc C fs post => ∀ d I' H' L', WS K post (vs.map some) I' H' L' → Step I H L I' H' L' → XAt K I' H' L' d fs → E (.ref C) (some d) H'
def spF (K : PySem.W.Frag) (g : FN) : Sp := fun vs H Q E => ∃ pre out I L, g pre = some out ∧ WS K pre (vs.map some) I H L ∧ PostF K vs I H L Q E out

def takeArgs : List (Option Nat) → List T → List T → Option (List T × List T)
  | [], [], γ => some ([], γ)
  | none :: bs, t :: ts, γ => (takeArgs bs ts γ).map fun q => (t :: q.1, q.2)
  | some i :: bs, _ :: ts, γ => match γ[i]? with
    | some (.d x) => (takeArgs bs ts γ).map fun q => (.d x :: q.1, q.2)
    | some .em => none
    | some t => (takeArgs bs ts (γ.set i .em)).map fun q => (t :: q.1, q.2)
    | none => none
  | _, _, _ => none
def backArgs : List (Option Nat) → List T → List T → List T → Option (List T)
  | [], [], [], γ => some γ
  | none :: bs, _ :: ps, _ :: qs, γ => backArgs bs ps qs γ
  | some _ :: bs, .d _ :: ps, _ :: qs, γ => backArgs bs ps qs γ
  | some i :: bs, _ :: ps, q :: qs, γ => backArgs bs ps qs (γ.set i q)
  | _, _, _, _ => none
section
variable {K : PySem.W.Frag} {ta tb tc te to : TE} {tt tu : TT} {I I' H H' : Hp} {γ γ' : List T} {σ : Sg} {L : List Addr} {t : T} {v : V} {x : D}
theorem Bor.len : ∀ {bs : List (Option Nat)} {vs : List V}, Bor σ bs vs → vs.length = bs.length
  | [], _, h => by cases (show _ = [] from h); rfl
  | none :: bs, _, ⟨v, ws, h, r⟩ => by subst h; simp [Bor.len r]
  | some i :: bs, _, ⟨v, ws, h, _, r⟩ => by subst h; simp [Bor.len r]
theorem IsX.mono (e : Ex I I') : ∀ {kvs : List (Str × V)} {fs : List (Str × D)}, IsX K I kvs fs → IsX K I' kvs fs
  | _, _, .nil => .nil
  | _, _, .cons a b => .cons (a.mono e) (b.mono e)
theorem set_app {α : Type} (a b : List α) (i : Nat) (x : α) : (a ++ b).set (a.length + i) x = a ++ b.set i x := by
  rw [List.set_append_right _ _ (by omega)]
  congr 2
  omega
theorem get_app {α : Type} (a b : List α) (i : Nat) : (a ++ b)[a.length + i]? = b[i]? := by
  rw [List.getElem?_append_right (by omega)]
  congr 1
  omega
/-- a slot's tree to the front -/
theorem WS.out {i : Nat} {ts : List T} {ws : Sg} (w : WS K (ts ++ γ) (ws ++ σ) I H L) (hl : ts.length = ws.length) (h : γ[i]? = some t) (ht : t ≠ .em) : ∃ v, σ[i]? = some (some v) ∧ ∃ L', WS K (t :: (ts ++ γ.set i .em)) (some v :: (ws ++ σ)) I H L' ∧ Step I H L I H L' := by
  obtain ⟨v, h1, L1, Li, L2, rfl, h2, h3⟩ := w.env.get (i := ts.length + i) (t := t) (by rw [get_app]; exact h) ht
  have h1' : σ[i]? = some (some v) := by rw [hl, get_app] at h1; exact h1
  have e := h3 I H .em v [] (Ex.refl I) (fun _ _ => rfl) (.em v)
  rw [set_app, FD.set_self h1] at e
  refine ⟨v, h1', Li ++ (L1 ++ ([] ++ L2)), ⟨.cons h2 e, ?_, fun a ha => w.fr a (by simp at ha ⊢; rcases ha with ha | ha | ha <;> simp [ha]), w.sub⟩, ⟨Ex.refl I, fun _ _ h _ => h, fun a ha => .inl (by simp at ha ⊢; rcases ha with ha | ha | ha <;> simp [ha]), fun _ _ h => .inl h⟩⟩
  have nd := w.nd
  rw [List.nil_append]
  exact (List.perm_append_comm_assoc L1 Li L2).nodup_iff.mp nd
theorem take_ok : ∀ {bs : List (Option Nat)} {ts pre : List T} {vs : List V} {γ γ1 : List T} {L : List Addr}, WS K (ts ++ γ) (vs.map some ++ σ) I H L → Bor σ bs vs → takeArgs bs ts γ = some (pre, γ1) → ∃ L', WS K (pre ++ γ1) (vs.map some ++ σ) I H L' ∧ Step I H L I H L' ∧ pre.length = vs.length ∧ γ1.length = γ.length
  | [], [], pre, vs, γ, γ1, L, w, hb, e => by
    cases (show vs = [] from hb)
    cases e
    exact ⟨L, w, Step.refl I H L, rfl, rfl⟩
  | [], _ :: _, _, _, _, _, _, _, _, e => by simp [takeArgs] at e
  | none :: _, [], _, _, _, _, _, _, _, e => by simp [takeArgs] at e
  | some _ :: _, [], _, _, _, _, _, _, _, e => by simp [takeArgs] at e
  | none :: bs, t :: ts, pre, vs, γ, γ1, L, w, hb, e => by
    unfold takeArgs at e
    cases e2 : takeArgs bs ts γ with
    | none => simp [e2] at e
    | some q =>
      obtain ⟨p2, γ2⟩ := q
      simp [e2] at e
      obtain ⟨rfl, rfl⟩ := e
      obtain ⟨v, ws, rfl, hb⟩ := hb
      obtain ⟨M1, M2, rfl, w2, hold⟩ := WS.hold (σ := ws.map some ++ σ) w
      obtain ⟨L3, w3, s3, hl, hl2⟩ := take_ok w2 hb e2
      obtain ⟨w4, s4⟩ := hold w3 s3
      exact ⟨_, w4, s4, by simp [hl], hl2⟩
  | some i :: bs, t :: ts, pre, vs, γ, γ1, L, w, hb, e => by
    obtain ⟨v, ws, rfl, hi, hb⟩ := hb
    obtain ⟨L0, w0, s0, _⟩ := WS.tail (σ := ws.map some ++ σ) w
    have bl := hb.len
    unfold takeArgs at e
    split at e
    · rename_i x hx
      cases e2 : takeArgs bs ts γ with
      | none => simp [e2] at e
      | some q =>
        obtain ⟨p2, γ2⟩ := q
        simp [e2] at e
        obtain ⟨rfl, rfl⟩ := e
        have hts : ts.length = (ws.map some : Sg).length := by
          have : ∀ {bs : List (Option Nat)} {ts : List T} {γ : List T} {q : List T × List T}, takeArgs bs ts γ = some q → ts.length = bs.length := by
            intro bs
            induction bs with
            | nil => intro ts γ q e; cases ts with | nil => rfl | cons => simp [takeArgs] at e
            | cons b bs ih =>
              intro ts γ q e
              cases ts with
              | nil => cases b <;> simp [takeArgs] at e
              | cons t ts =>
                cases b with
                | none =>
                  simp [takeArgs] at e
                  obtain ⟨_, _, e, _⟩ := e
                  simp [ih e]
                | some i =>
                  simp only [takeArgs] at e
                  split at e
                  · simp at e; obtain ⟨_, _, e, _⟩ := e; simp [ih e]
                  · cases e
                  · simp at e; obtain ⟨_, _, e, _⟩ := e; simp [ih e]
                  · cases e
          rw [List.length_map, bl]
          exact this e2
        have hv : Is K I v x := by
          obtain ⟨v', h1, _, _, _, _, h2, _⟩ := w0.env.get (i := ts.length + i) (t := .d x) ((get_app ts γ i).trans hx) (fun z => nomatch z)
          rw [hts, get_app, hi] at h1
          cases h1
          cases h2 with
          | d h2 => exact h2
        obtain ⟨L3, w3, s3, hl, hl2⟩ := take_ok w0 hb e2
        exact ⟨L3, w3.front hv, s0.trans s3, by simp [hl], hl2⟩
    · cases e
    · rename_i u nd ne hx
      have hne : u ≠ .em := fun z => ne z
      cases e2 : takeArgs bs ts (γ.set i .em) with
      | none => simp [e2] at e
      | some q =>
        obtain ⟨p2, γ2⟩ := q
        simp [e2] at e
        obtain ⟨rfl, rfl⟩ := e
        have hts : ts.length = (ws.map some : Sg).length := by
          have := w0.env.len
          have h2 : ∀ {bs : List (Option Nat)} {ts : List T} {γ : List T} {q : List T × List T}, takeArgs bs ts γ = some q → ts.length = bs.length := by
            intro bs
            induction bs with
            | nil => intro ts γ q e; cases ts with | nil => rfl | cons => simp [takeArgs] at e
            | cons b bs ih =>
              intro ts γ q e
              cases ts with
              | nil => cases b <;> simp [takeArgs] at e
              | cons t ts =>
                cases b with
                | none =>
                  simp [takeArgs] at e
                  obtain ⟨_, _, e, _⟩ := e
                  simp [ih e]
                | some i =>
                  simp only [takeArgs] at e
                  split at e
                  · simp at e; obtain ⟨_, _, e, _⟩ := e; simp [ih e]
                  · cases e
                  · simp at e; obtain ⟨_, _, e, _⟩ := e; simp [ih e]
                  · cases e
          rw [List.length_map, bl]
          exact h2 e2
        obtain ⟨v', h1, L1, w1, s1⟩ := w0.out hts hx hne
        rw [hi] at h1
        cases h1
        obtain ⟨M1, M2, rfl, w2, hold⟩ := WS.hold (σ := ws.map some ++ σ) w1
        obtain ⟨L3, w3, s3, hl, hl2⟩ := take_ok w2 hb e2
        obtain ⟨w4, s4⟩ := hold w3 s3
        exact ⟨_, w4, (s0.trans s1).trans s4, by simp [hl], by simpa using hl2⟩
    · cases e
theorem EnvT.split : ∀ {pre : List T} {vs : Sg} {L : List Addr}, pre.length = vs.length → EnvT K I H (pre ++ γ) (vs ++ σ) L → ∃ L1 L2, L = L1 ++ L2 ∧ EnvT K I H pre vs L1 ∧ EnvT K I H γ σ L2
  | [], [], L, _, e => ⟨[], L, rfl, .nil, e⟩
  | [], _ :: _, _, h, _ => by simp at h
  | _ :: _, [], _, h, _ => by simp at h
  | t :: pre, v :: vs, L, h, e => by
    cases e with
    | em _ e =>
      obtain ⟨L1, L2, rfl, a, b⟩ := EnvT.split (by simpa using h) e
      exact ⟨L1, L2, rfl, .em _ a, b⟩
    | @cons _ _ _ _ M1 M2 p e =>
      obtain ⟨L1, L2, rfl, a, b⟩ := EnvT.split (by simpa using h) e
      exact ⟨M1 ++ L1, L2, by simp, .cons p a, b⟩
theorem EnvT.join : ∀ {pre : List T} {vs : Sg} {L1 L2 : List Addr}, EnvT K I H pre vs L1 → EnvT K I H γ σ L2 → EnvT K I H (pre ++ γ) (vs ++ σ) (L1 ++ L2)
  | _, _, _, _, .nil, b => b
  | _, _, _, _, .em x a, b => .em x (EnvT.join a b)
  | _, _, _, _, .cons (L1 := M1) p a, b => by
    rw [List.append_assoc]
    exact .cons p (EnvT.join a b)
/-- what stands beside a part that steps -/
theorem WS.apart {pre : List T} {vs : Sg} (w : WS K (pre ++ γ) (vs ++ σ) I H L) (hl : pre.length = vs.length) : ∃ L1 L2, L = L1 ++ L2 ∧ WS K pre vs I H L1 ∧ ∀ {pre' : List T} {vs' : Sg} {I' H' : Hp} {L1' : List Addr}, WS K pre' vs' I' H' L1' → Step I H L1 I' H' L1' → WS K (pre' ++ γ) (vs' ++ σ) I' H' (L1' ++ L2) ∧ Step I H (L1 ++ L2) I' H' (L1' ++ L2) := by
  obtain ⟨L1, L2, rfl, e1, e2⟩ := w.env.split hl
  have nd := List.nodup_append.mp w.nd
  refine ⟨L1, L2, rfl, ⟨e1, nd.1, fun a h => w.fr a (by simp [h]), w.sub⟩, fun {pre' vs' I' H' L1'} w' s => ?_⟩
  have lv : ∀ a ∈ L2, H a ≠ none := fun a h => e2.live a h
  have out : ∀ a ∈ L2, a ∉ L1 := fun a h q => nd.2.2 a q a h rfl
  have kp : ∀ a ∈ L2, H' a = H a := fun a h => by
    cases e : H a with
    | none => exact absurd e (lv a h)
    | some o => exact s.keep a o e (out a h)
  have ap : ∀ a ∈ L2, a ∉ L1' := fun a h q => (s.l a q).elim (out a h) (lv a h)
  refine ⟨⟨w'.env.join (e2.keep s.i kp), List.nodup_append.mpr ⟨w'.nd, nd.2.1, fun a h b hb e => ap b hb (e ▸ h)⟩, fun a h => ?_, w'.sub⟩, ⟨s.i, fun a o h q => s.keep a o h fun z => q (by simp [z]), fun a h => ?_, fun a o h => ?_⟩⟩
  · rcases List.mem_append.mp h with h | h
    · exact w'.fr a h
    · cases e : I' a with
      | none => rfl
      | some o =>
        rcases s.n a o e with q | q | q
        · rw [w.fr a (by simp [h])] at q; cases q
        · exact absurd q (out a h)
        · exact absurd q (lv a h)
  · rcases List.mem_append.mp h with h | h
    · exact (s.l a h).elim (fun z => .inl (by simp [z])) .inr
    · exact .inl (by simp [h])
  · rcases s.n a o h with q | q | q
    · exact .inl q
    · exact .inr (.inl (by simp [q]))
    · exact .inr (.inr q)
theorem back_ok : ∀ {bs : List (Option Nat)} {pre post : List T} {vs : List V} {γ γ2 : List T} {L : List Addr}, WS K (post ++ γ) (vs.map some ++ σ) I H L → Bor σ bs vs → post.length = vs.length → backArgs bs pre post γ = some γ2 → ∃ L', WS K γ2 σ I H L' ∧ Step I H L I H L'
  | [], [], [], vs, γ, γ2, L, w, hb, hl, e => by
    cases (show vs = [] from hb)
    cases e
    exact ⟨L, w, Step.refl I H L⟩
  | none :: bs, p :: ps, q :: qs, vs, γ, γ2, L, w, hb, hl, e => by
    obtain ⟨v, ws, rfl, hb⟩ := hb
    obtain ⟨L1, w1, s1, _⟩ := WS.tail (σ := ws.map some ++ σ) w
    obtain ⟨L2, w2, s2⟩ := back_ok (pre := ps) w1 hb (by simpa using hl) (by simpa [backArgs] using e)
    exact ⟨L2, w2, s1.trans s2⟩
  | some i :: bs, p :: ps, q :: qs, vs, γ, γ2, L, w, hb, hl, e => by
    obtain ⟨v, ws, rfl, hi, hb⟩ := hb
    have hlq : qs.length = ws.length := by simpa using hl
    have key : backArgs bs ps qs (γ.set i q) = some γ2 → ∃ L', WS K γ2 σ I H L' ∧ Step I H L I H L' := fun e => by
      by_cases hig : i < γ.length
      · obtain ⟨L1, w1, s1⟩ : ∃ L', WS K ((qs ++ γ).set (qs.length + i) q) ((ws.map some ++ σ).set (qs.length + i) (some v)) I H L' ∧ Step I H L I H L' := by
          by_cases hq : q = .em
          · subst hq
            obtain ⟨L0, w0, s0, _⟩ := WS.tail (σ := ws.map some ++ σ) w
            obtain ⟨L1, w1, s1⟩ := w0.setE (some v) (qs.length + i)
            exact ⟨L1, w1, s0.trans s1⟩
          · exact WS.setN (σ := ws.map some ++ σ) w (by simp; omega) hq
        rw [set_app] at w1
        have e2 : (ws.map some ++ σ).set (qs.length + i) (some v) = ws.map some ++ σ := by
          rw [show qs.length = (ws.map some : Sg).length by simp [hlq], set_app, FD.set_self hi]
        rw [e2] at w1
        obtain ⟨L2, w2, s2⟩ := back_ok (pre := ps) w1 hb hlq e
        exact ⟨L2, w2, s1.trans s2⟩
      · rw [List.set_eq_of_length_le (by omega)] at e
        obtain ⟨L1, w1, s1, _⟩ := WS.tail (σ := ws.map some ++ σ) w
        obtain ⟨L2, w2, s2⟩ := back_ok (pre := ps) w1 hb hlq e
        exact ⟨L2, w2, s1.trans s2⟩
    cases p with
    | d x =>
      obtain ⟨L1, w1, s1, _⟩ := WS.tail (σ := ws.map some ++ σ) w
      obtain ⟨L2, w2, s2⟩ := back_ok (pre := ps) w1 hb hlq (by simpa [backArgs] using e)
      exact ⟨L2, w2, s1.trans s2⟩
    | em => exact key (by simpa [backArgs] using e)
    | lst => exact key (by simpa [backArgs] using e)
    | dic => exact key (by simpa [backArgs] using e)
    | obj => exact key (by simpa [backArgs] using e)
  | [], _ :: _, _, _, _, _, _, _, _, _, e => by simp [backArgs] at e
  | [], [], _ :: _, _, _, _, _, _, _, _, e => by simp [backArgs] at e
  | none :: _, [], _, _, _, _, _, _, _, _, e => by simp [backArgs] at e
  | none :: _, _ :: _, [], _, _, _, _, _, _, _, e => by simp [backArgs] at e
  | some _ :: _, [], _, _, _, _, _, _, _, _, e => by simp [backArgs] at e
  | some _ :: _, p :: _, [], _, _, _, _, _, _, _, e => by cases p <;> simp [backArgs] at e
/-- the heart of a call: from arguments to the answer -/
def callF (g : FN) (bs : List (Option Nat)) (ts γ : List T) : Option (T × List T) := (takeArgs bs ts γ).bind fun p => match g p.1 with
  | some (.ret r post) => if post.length = p.1.length then (backArgs bs p.1 post p.2).map fun γ2 => (r, γ2) else none
  | _ => none
theorem call_ok {g : FN} {bs : List (Option Nat)} {ts : List T} {vs : List V} {r : T} {γ2 : List T} (w : WS K (ts ++ γ) (vs.map some ++ σ) I H L) (hb : Bor σ bs vs) (e : callF g bs ts γ = some (r, γ2)) {Q : VK} {E : XK} (k : ∀ v I' H' L', WS K (r :: γ2) (some v :: σ) I' H' L' → Step I H L I' H' L' → Q v H') : spF K g vs H Q E := by
  unfold callF at e
  obtain ⟨⟨pre, γ1⟩, e1, e⟩ := Option.bind_eq_some_iff.mp e
  obtain ⟨L1, w1, s1, hl, hl2⟩ := take_ok w hb e1
  dsimp only at e
  split at e
  · rename_i r' post hg
    split at e
    · rename_i hp
      cases e3 : backArgs bs pre post γ1 with
      | none => simp [e3] at e
      | some γ3 =>
        simp [e3] at e
        obtain ⟨rfl, rfl⟩ := e
        obtain ⟨M1, M2, rfl, wp, join⟩ := w1.apart (by simpa using hl)
        refine ⟨pre, _, I, M1, hg, wp, fun v I' H' L' w' s' => ?_⟩
        obtain ⟨w3, s3⟩ := join w' s'
        obtain ⟨N1, N2, hN, w4, hold⟩ := WS.hold (σ := vs.map some ++ σ) w3
        obtain ⟨L5, w5, s5⟩ := back_ok (pre := pre) w4 hb (by omega) e3
        obtain ⟨w6, s6⟩ := hold w5 s5
        rw [← hN] at s6
        exact k v I' H' _ w6 ((s1.trans s3).trans s6)
    · cases e
  · cases e
/-- f(a, ..) -/
def eCall (g : FN) (bs : List (Option Nat)) (a : List T → Option (List T × List T)) : List T → Option (T × List T) := fun γ => (a γ).bind fun q => callF g bs q.1 q.2
theorem ef_call {g : FN} {bs : List (Option Nat)} {a : List T → Option (List T × List T)} {tr : TA} {E : XK} (ha : EfA K tr bs a) : Ef K (tCall (spF K g) [] E tr) (eCall g bs a) := fun γ t γ' e σ I H L w Q k => by
  unfold eCall at e
  obtain ⟨⟨ts, γ1⟩, e1, e⟩ := Option.bind_eq_some_iff.mp e
  refine ha γ ts γ1 e1 σ I H L w _ fun vs I1 H1 L1 w1 s1 hb => ?_
  show spF K g (vs ++ []) H1 Q E
  rw [List.append_nil]
  exact call_ok w1 hb e fun v I' H' L' w' s' => k v I' H' L' w' (s1.trans s')
/-- data alone: a pure call -/
def pCall (g : FN) (a : List T → Option (List D)) : List T → Option D := fun γ => (a γ).bind fun xs => match g (xs.map .d) with
  | some (.ret r _) => r.toD
  | _ => none
theorem env_ds : ∀ {xs : List D} {vs : List V}, IsA K I vs xs → EnvT K I H (xs.map .d) (vs.map some) []
  | [], _, h => by cases h; exact .nil
  | x :: xs, _, h => by
    cases h with
    | cons h1 h2 => exact .cons (L1 := []) (.d h1) (env_ds h2)
theorem spF_pure {g : FN} {xs : List D} {vs : List V} {z : D} {r : T} {post : List T} {E : XK} (s : Ex I H) (hv : IsA K I vs xs) (e : g (xs.map .d) = some (.ret r post)) (hr : r.toD = some z) {Q : VK} (k : ∀ v I' H', New I H I' H' → Ex I' H' → Is K I' v z → Q v H') : spF K g vs H Q E :=
  ⟨_, _, I, [], e, ⟨env_ds hv, List.nodup_nil, fun a h => by simp at h, s⟩, fun v I' H' L' w' s' => by
    obtain ⟨I2, L2, w2, s2, h1⟩ := w'.frz hr
    exact k v I2 H' (s'.trans s2).toNew w2.sub h1⟩
theorem pu_call {g : FN} {a : List T → Option (List D)} {tr : TA} {E : XK} (ha : PuA K tr a) : Pu K (tCall (spF K g) [] E tr) (pCall g a) := fun γ z e σ I H L w Q k => by
  unfold pCall at e
  obtain ⟨xs, e1, e⟩ := Option.bind_eq_some_iff.mp e
  split at e
  · rename_i r post hg
    refine ha γ xs e1 σ I H L w _ fun vs I1 H1 n1 s1 hv => ?_
    show spF K g (vs ++ []) H1 Q E
    rw [List.append_nil]
    exact spF_pure s1 hv hg e fun v I' H' n s h => k v I' H' (n1.trans n) s h
  · cases e
/-- f() -/
def pCall0 (g : FN) : List T → Option D := pCall g pNil
end
end FD

/-! FS5: targets, walks, comprehensions, statements, defs. -/
namespace FD
open PySem PySem.Spec PyProof.Rows L2

def Agr (wr : List Nat) (σ σ' : Sg) : Prop := σ'.length = σ.length ∧ ∀ i, i ∉ wr → σ'[i]? = σ[i]?
theorem Agr.refl {wr : List Nat} (σ : Sg) : Agr wr σ σ := ⟨rfl, fun _ _ => rfl⟩
theorem Agr.trans {wr : List Nat} {a b c : Sg} (h : Agr wr a b) (g : Agr wr b c) : Agr wr a c := ⟨g.1.trans h.1, fun i hi => (g.2 i hi).trans (h.2 i hi)⟩
theorem Agr.mono {wr wr' : List Nat} {a b : Sg} (h : Agr wr a b) (s : ∀ i ∈ wr, i ∈ wr') : Agr wr' a b := ⟨h.1, fun i hi => h.2 i fun z => hi (s i z)⟩
theorem Agr.set {wr : List Nat} {σ : Sg} {i : Nat} {y : Option V} (h : i ∈ wr) : Agr wr σ (σ.set i y) := ⟨by simp, fun j hj => by
  rw [List.getElem?_set_ne (fun e => hj (by rw [← e]; exact h))]⟩
inductive O where
  | nx (γ : List T) | rt (r : T) (γ : List T) | bk (γ : List T) | ct (γ : List T) | xc (C : Addr) (fs : List (Str × D)) (γ : List T)
abbrev WX' := Value → Option Addr → Sg → Hp → Prop
def PostS (K : PySem.W.Frag) (wr : List Nat) (W : WX') (Dn : Ends) (σ : Sg) (I H : Hp) (L : List Addr) : O → Prop
  | .nx γ => ∀ σ' I' H' L', WS K γ σ' I' H' L' → Step I H L I' H' L' → Agr wr σ σ' → Dn.nx σ' H'
  | .bk γ => ∀ σ' I' H' L', WS K γ σ' I' H' L' → Step I H L I' H' L' → Agr wr σ σ' → Dn.bk σ' H'
  | .ct γ => ∀ σ' I' H' L', WS K γ σ' I' H' L' → Step I H L I' H' L' → Agr wr σ σ' → Dn.ct σ' H'
  | .rt r γ => ∀ v σ' I' H' L', WS K (r :: γ) (some v :: σ') I' H' L' → Step I H L I' H' L' → Agr wr σ σ' → Dn.rt v H'
  | .xc C fs γ => ∀ d σ' I' H' L', WS K γ σ' I' H' L' → Step I H L I' H' L' → Agr wr σ σ' → XAt K I' H' L' d fs → W (.ref C) (some d) σ' H'
theorem PostS.later {K : PySem.W.Frag} {wr : List Nat} {W : WX'} {Dn : Ends} {σ σ1 : Sg} {I H I1 H1 : Hp} {L L1 : List Addr} (s : Step I H L I1 H1 L1) (a : Agr wr σ σ1) : ∀ {o : O}, PostS K wr W Dn σ I H L o → PostS K wr W Dn σ1 I1 H1 L1 o
  | .nx _, p => fun σ' I' H' L' w g b => p σ' I' H' L' w (s.trans g) (a.trans b)
  | .bk _, p => fun σ' I' H' L' w g b => p σ' I' H' L' w (s.trans g) (a.trans b)
  | .ct _, p => fun σ' I' H' L' w g b => p σ' I' H' L' w (s.trans g) (a.trans b)
  | .rt _ _, p => fun v σ' I' H' L' w g b => p v σ' I' H' L' w (s.trans g) (a.trans b)
  | .xc _ _ _, p => fun d σ' I' H' L' w g b x => p d σ' I' H' L' w (s.trans g) (a.trans b) x
def RunS (K : PySem.W.Frag) (wr : List Nat) (W : WX') (ts : TS) (f : List T → Option O) : Prop := ∀ γ o, f γ = some o → ∀ σ I H L, WS K γ σ I H L → ∀ Dn : Ends, PostS K wr W Dn σ I H L o → ts Dn σ H
/-! targets -/
def RgS (K : PySem.W.Frag) (wr : List Nat) (g : TG) (f : D → List T → Option (List T)) : Prop := ∀ x γ γ', f x γ = some γ' → ∀ v σ I H L, WS K γ σ I H L → Is K I v x → ∀ Q : Sg → Hp → Prop, (∀ σ' L', WS K γ' σ' I H L' → Step I H L I H L' → Agr wr σ σ' → Q σ' H) → g v σ H Q
def RgsS (K : PySem.W.Frag) (wr : List Nat) (g : TGs) (f : List D → List T → Option (List T)) : Prop := ∀ xs γ γ', f xs γ = some γ' → ∀ vs σ I H L, WS K γ σ I H L → IsA K I vs xs → ∀ Q : Sg → Hp → Prop, (∀ σ' L', WS K γ' σ' I H L' → Step I H L I H L' → Agr wr σ σ' → Q σ' H) → g vs σ H Q
def gN (i : Nat) : D → List T → Option (List T) := fun x γ => some (γ.set i (.d x))
def gNl : List D → List T → Option (List T) := fun xs γ => match xs with
  | [] => some γ
  | _ => none
def gCn (f : D → List T → Option (List T)) (g : List D → List T → Option (List T)) : List D → List T → Option (List T) := fun xs γ => match xs with
  | x :: xs => (f x γ).bind fun γ1 => g xs γ1
  | [] => none
def gTp (n : Nat) (g : List D → List T → Option (List T)) : D → List T → Option (List T) := fun x γ => match x with
  | .tup ds => if ds.length = n then g ds γ else none
  | _ => none
section
variable {K : PySem.W.Frag} {wr : List Nat} {W : WX'} {ta tb tc te to : TE} {tt tu : TT} {ts tv : TS} {I I' H H' : Hp} {γ γ' : List T} {σ : Sg} {L : List Addr} {t : T} {v : V} {x : D}
theorem WS.setF (w : WS K (t :: γ) (some v :: σ) I H L) (i : Nat) : ∃ L', WS K (γ.set i t) (σ.set i (some v)) I H L' ∧ Step I H L I H L' := by
  by_cases hi : i < γ.length
  · by_cases ht : t = .em
    · subst ht
      obtain ⟨L0, w0, s0, _⟩ := w.tail
      obtain ⟨L1, w1, s1⟩ := w0.setE (some v) i
      exact ⟨L1, w1, s0.trans s1⟩
    · exact w.setN hi ht
  · obtain ⟨L0, w0, s0, _⟩ := w.tail
    have hl := w0.env.len
    rw [List.set_eq_of_length_le (by omega), List.set_eq_of_length_le (by omega)]
    exact ⟨L0, w0, s0⟩
theorem rg_n {i : Nat} (h : i ∈ wr) : RgS K wr (gName i) (gN i) := fun x γ γ' e v σ I H L w hv Q q => by
  cases e
  obtain ⟨L', w', s'⟩ := (w.front hv).setF i
  exact q _ L' w' s' (.set h)
theorem rgs_nil : RgsS K wr gNil gNl := fun xs γ γ' e vs σ I H L w hv Q q => by
  unfold gNl at e
  split at e
  · cases e
    cases hv
    exact ⟨rfl, q σ L w (Step.refl _ _ _) (.refl σ)⟩
  · cases e
theorem rgs_cons {g : TG} {gs : TGs} {f : D → List T → Option (List T)} {fs : List D → List T → Option (List T)} (h1 : RgS K wr g f) (h2 : RgsS K wr gs fs) : RgsS K wr (gCons g gs) (gCn f fs) := fun xs γ γ' e vs σ I H L w hv Q q => by
  unfold gCn at e
  split at e
  · obtain ⟨γ1, e1, e2⟩ := Option.bind_eq_some_iff.mp e
    cases hv with
    | cons hv1 hv2 =>
      exact ⟨_, _, rfl, h1 _ γ γ1 e1 _ σ I H L w hv1 _ fun σ1 L1 w1 s1 a1 => h2 _ γ1 γ' e2 _ σ1 I H L1 w1 hv2 _ fun σ2 L2 w2 s2 a2 => q σ2 L2 w2 (s1.trans s2) (a1.trans a2)⟩
  · cases e
theorem rg_tp {n : Nat} {gs : TGs} {fs : List D → List T → Option (List T)} (h : RgsS K wr gs fs) : RgS K wr (gTup K n gs) (gTp n fs) := fun x γ γ' e v σ I H L w hv Q q => by
  unfold gTp at e
  split at e
  · split at e
    · rename_i hn
      cases hv with
      | tup h1 h2 => exact ⟨_, _, rfl, w.sub.t h1, by rw [h2.length]; exact hn, h _ γ γ' e _ σ I H L w h2 Q q⟩
    · cases e
  · cases e
/-! walks -/
def ItS (K : PySem.W.Frag) (fz : Bool) (wi : TI) (f : List T → Option (List D)) : Prop := ∀ γ ds, f γ = some ds → ∀ σ I H L, WS K γ σ I H L → ∀ R : It → Hp → Prop,
  (∀ J I1 H1 (G : Hp → Prop) Y, New I H I1 H1 → Ex I1 H1 → (∀ H', Ex I1 H' → (fz = false → Ex H1 H') → G H') → Walk J ds.length G Y →
    (∀ i I2 H2 x H3, i < ds.length → Ex I1 I2 → Ex I2 H2 → Y i H2 x H3 → ∃ d I3, ds[i]? = some d ∧ New I2 H2 I3 H3 ∧ Ex I3 H3 ∧ Is K I3 x d) → R J H1) → wi σ H R
def Src (K : PySem.W.Frag) (fz : Bool) (te : TE) (f : List T → Option D) : Prop := match fz with
  | true => Pu K te f
  | false => Cu K te f
theorem Src.list {fz : Bool} {f : List T → Option D} (h : Src K fz te f) {ds : List D} (e : f γ = some (.lst ds)) (w : WS K γ σ I H L) {Q : VK} (k : ∀ a xs I' H', New I H I' H' → Ex I' H' → SqL K H' a xs → (∀ H2, Ex I' H2 → (fz = false → Ex H' H2) → SqL K H2 a xs) → IsA K I' xs ds → Q (.ref a) H') : te σ H Q := by
  cases fz with
  | true =>
    exact h γ _ e σ I H L w Q fun v I' H' n s hv => by
      cases hv with
      | lst h1 h2 => exact k _ _ I' H' n s (s.l h1) (fun H2 e _ => e.l h1) h2
  | false =>
    exact h γ _ e σ I H L w Q fun v I' H' n s hv => by
      obtain ⟨a, xs, rfl, h1, h2⟩ := hv.l s
      exact k _ _ I' H' n s h1 (fun H2 _ e => (e rfl).l h1) h2
theorem Src.tup {fz : Bool} {f : List T → Option D} (h : Src K fz te f) {ds : List D} (e : f γ = some (.tup ds)) (w : WS K γ σ I H L) {Q : VK} (k : ∀ a xs I' H', New I H I' H' → Ex I' H' → SqT K H' a xs → (∀ H2, Ex I' H2 → (fz = false → Ex H' H2) → SqT K H2 a xs) → IsA K I' xs ds → Q (.ref a) H') : te σ H Q := by
  cases fz with
  | true =>
    exact h γ _ e σ I H L w Q fun v I' H' n s hv => by
      cases hv with
      | tup h1 h2 => exact k _ _ I' H' n s (s.t h1) (fun H2 e _ => e.t h1) h2
  | false =>
    exact h γ _ e σ I H L w Q fun v I' H' n s hv => by
      obtain ⟨a, xs, rfl, h1, h2⟩ := hv.t s
      exact k _ _ I' H' n s h1 (fun H2 _ e => (e rfl).t h1) h2
theorem Src.str {fz : Bool} {f : List T → Option D} (h : Src K fz te f) {x : Str} (e : f γ = some (.str x)) (w : WS K γ σ I H L) {Q : VK} (k : ∀ I' H', New I H I' H' → Ex I' H' → Q (.str x) H') : te σ H Q := by
  cases fz with
  | true =>
    exact h γ _ e σ I H L w Q fun v I' H' n s hv => by
      cases hv
      exact k I' H' n s
  | false =>
    exact h γ _ e σ I H L w Q fun v I' H' n s hv => by
      obtain rfl := hv.s
      exact k I' H' n s
/-- a list's, a tuple's items, a text's signs -/
def walkD : D → Option (List D)
  | .lst ds => some ds
  | .tup ds => some ds
  | .str s => some (signs s)
  | _ => none
def iAnyF (f : List T → Option D) : List T → Option (List D) := fun γ => (f γ).bind walkD
theorem its_any {fz : Bool} {f : List T → Option D} (h : Src K fz te f) : ItS K fz (iAny K te) (iAnyF f) := fun γ ds e σ I H L w R k => by
  unfold iAnyF at e
  obtain ⟨y, e1, e2⟩ := Option.bind_eq_some_iff.mp e
  cases y <;> simp [walkD] at e2
  · rename_i s
    subst e2
    refine .inr (.inr (h.str e1 w fun I1 H1 n1 s1 => ?_))
    refine ⟨s, rfl, k _ I1 H1 (fun _ => True) _ n1 s1 (fun _ _ _ => trivial) (by simp only [signs, List.length_map, Array.length_toList]; exact walk_str) fun i I2 H2 x H3 hi e1 e2 y => ?_⟩
    obtain ⟨rfl, c, hc, rfl⟩ := y
    exact ⟨.str ⟨#[c]⟩, I2, by simp [signs, hc], New.refl I2 _, e2, .str _⟩
  · subst e2
    refine .inl (h.list e1 w fun a xs I1 H1 n1 s1 h1 hG h2 => ?_)
    have hl := h2.length
    refine ⟨a, rfl, ⟨xs, h1⟩, k _ I1 H1 (fun H' => SqL K H' a xs) (YAt xs) n1 s1 hG (hl ▸ walk_list) fun i I2 H2 x H3 hi e3 e4 y => ?_⟩
    obtain ⟨rfl, hx⟩ := y
    obtain ⟨d, hd, hv⟩ := h2.get hx
    exact ⟨d, I2, hd, New.refl I2 _, e4, hv.mono e3⟩
  · subst e2
    refine .inr (.inl (h.tup e1 w fun a xs I1 H1 n1 s1 h1 hG h2 => ?_))
    have hl := h2.length
    refine ⟨a, rfl, ⟨xs, h1⟩, k _ I1 H1 (fun H' => SqT K H' a xs) (YAt xs) n1 s1 hG (hl ▸ walk_tup) fun i I2 H2 x H3 hi e3 e4 y => ?_⟩
    obtain ⟨rfl, hx⟩ := y
    obtain ⟨d, hd, hv⟩ := h2.get hx
    exact ⟨d, I2, hd, New.refl I2 _, e4, hv.mono e3⟩
def iR1 (f : List T → Option D) : List T → Option (List D) := fun γ => (f γ).bind fun x => match x with
  | .int n => if -(2 ^ 62) ≤ n ∧ n < 2 ^ 62 then some (intsD 0 n.toNat) else none
  | _ => none
theorem its_rng1 {fz : Bool} {f : List T → Option D} (h : Pu K te f) : ItS K fz (iRng1 (tCons te tNil)) (iR1 f) := fun γ ds e σ I H L w R k => by
  unfold iR1 at e
  obtain ⟨y, e1, e2⟩ := Option.bind_eq_some_iff.mp e
  cases y <;> simp at e2
  obtain ⟨hn, rfl⟩ := e2
  rename_i n
  refine h γ _ e1 σ I H L w _ fun v I1 H1 n1 s1 hv => ?_
  cases hv
  refine ⟨n, rfl, hn.1, hn.2, k _ I1 H1 (fun _ => True) (YFn fun i => .int (0 + (i : Nat))) n1 s1 (fun _ _ _ => trivial) (by simp only [intsD, List.length_map, List.length_range]; exact walk_range) fun i I2 H2 x H3 hi e1 e2 y => ?_⟩
  obtain ⟨rfl, rfl⟩ := y
  have hi' : i < n.toNat := by simpa [intsD] using hi
  exact ⟨.int (0 + (i : Nat)), I2, by simp [intsD, hi'], New.refl I2 _, e2, .int _⟩
def iR2 (f g : List T → Option D) : List T → Option (List D) := fun γ => (f γ).bind fun x => (g γ).bind fun y => match x, y with
  | .int lo, .int n => if -(2 ^ 62) ≤ lo ∧ lo < 2 ^ 62 ∧ -(2 ^ 62) ≤ n ∧ n < 2 ^ 62 then some (intsD lo (n - lo).toNat) else none
  | _, _ => none
theorem its_rng2 {fz : Bool} {f g : List T → Option D} (h : Pu K ta f) (h2 : Pu K tb g) : ItS K fz (iRng2 (tCons ta (tCons tb tNil))) (iR2 f g) := fun γ ds e σ I H L w R k => by
  unfold iR2 at e
  obtain ⟨x, e1, e⟩ := Option.bind_eq_some_iff.mp e
  obtain ⟨y, e2, e⟩ := Option.bind_eq_some_iff.mp e
  cases x <;> cases y <;> simp at e
  obtain ⟨hn, rfl⟩ := e
  rename_i lo n _
  refine h γ _ e1 σ I H L w _ fun v I1 H1 n1 s1 hv => h2 γ _ e2 σ I1 H1 L (w.new n1 s1) _ fun u I2 H2 n2 s2 hu => ?_
  cases hv
  cases hu
  refine ⟨lo, n, rfl, hn, k _ I2 H2 (fun _ => True) (YFn fun i => .int (lo + (i : Nat))) (n1.trans n2) s2 (fun _ _ _ => trivial) (by simp only [intsD, List.length_map, List.length_range]; exact walk_range) fun i I2 H2 x H3 hi e1 e2 y => ?_⟩
  obtain ⟨rfl, rfl⟩ := y
  have hi' : i < (n - lo).toNat := by simpa [intsD] using hi
  exact ⟨.int (lo + (i : Nat)), I2, by simp [intsD, hi'], New.refl I2 _, e2, .int _⟩
def iEn (f : List T → Option D) : List T → Option (List D) := fun γ => (f γ).bind fun x => match x with
  | .lst ds => some (enumD ds)
  | _ => none
theorem its_enum {fz : Bool} {f : List T → Option D} (h : Src K fz te f) : ItS K fz (iEnum K (tCons te tNil)) (iEn f) := fun γ ds e σ I H L w R k => by
  unfold iEn at e
  obtain ⟨x, e1, e⟩ := Option.bind_eq_some_iff.mp e
  split at e
  · rename_i zs
    cases e
    refine h.list e1 w fun a xs I1 H1 n1 s1 h1 hG h2 => ?_
    have hl := h2.length
    refine ⟨a, xs, rfl, h1, k _ I1 H1 (fun H' => SqL K H' a xs) _ n1 s1 hG (by simp only [enumD, List.length_map, List.length_zipIdx, ← hl]; exact walk_enum) fun i I2 H2 v H3 hi e1 e2 y => ?_⟩
    obtain ⟨T, x, z, rfl, hT, rfl, hx, hz⟩ := y
    cases hx
    obtain ⟨d, hd, hv⟩ := h2.get hz
    have hdl : i < zs.length := by simpa [enumD] using hi
    obtain ⟨n, s⟩ := alloc (o := .tup [.int (i : Nat), z]) e2 hT
    refine ⟨.tup [.int (i : Nat), d], _, ?_, n, s, .tup (st_of upd_same) (.cons (.int _) (.cons ((hv.mono e1).mono n.i) .nil))⟩
    have hdd : zs[i] = d := by
      rw [List.getElem?_eq_getElem hdl] at hd
      exact Option.some.inj hd
    simp [enumD, hdl, hdd]
  · cases e
def zipD (xs ys : List D) : List D := List.zipWith (fun a b => .tup [a, b]) xs ys
def iZp (f g : List T → Option D) : List T → Option (List D) := fun γ => (f γ).bind fun x => (g γ).bind fun y => match x, y with
  | .lst xs, .lst ys => some (zipD xs ys)
  | _, _ => none
theorem its_zip {fz : Bool} {f g : List T → Option D} (h : Src K fz ta f) (h' : Src K fz tb g) : ItS K fz (iZip K (tCons ta (tCons tb tNil))) (iZp f g) := fun γ ds e σ I H L w R k => by
  unfold iZp at e
  obtain ⟨x, e1, e⟩ := Option.bind_eq_some_iff.mp e
  obtain ⟨y, e2, e⟩ := Option.bind_eq_some_iff.mp e
  split at e
  · rename_i zs us
    cases e
    refine h.list e1 w fun a xs I1 H1 n1 s1 h1 hG h2 => h'.list e2 (w.new n1 s1) fun b ys I2 H2 n2 s2 h3 hG2 h4 => ?_
    have hl := h2.length
    have hl' := h4.length
    have h1' : SqL K H2 a xs := hG H2 (n2.i.trans s2) fun _ => n2.h
    refine ⟨a, b, xs, ys, rfl, h1', h3, k _ I2 H2 (fun H' => SqL K H' a xs ∧ SqL K H' b ys) _ (n1.trans n2) s2 (fun H' e3 e4 => ⟨hG H' (n2.i.trans e3) fun z => n2.h.trans (e4 z), hG2 H' e3 e4⟩) (walk_zip (by simp [zipD, hl, hl'])) fun i I3 H3 v H4 hi e3 e4 y => ?_⟩
    obtain ⟨T, x, z, rfl, hT, rfl, hx, hz⟩ := y
    obtain ⟨d, hd, hv⟩ := h2.get hx
    obtain ⟨d', hd', hv'⟩ := h4.get hz
    obtain ⟨n, s⟩ := alloc (o := .tup [x, z]) e4 hT
    refine ⟨.tup [d, d'], _, ?_, n, s, .tup (st_of upd_same) (.cons ((hv.mono (n2.i.trans e3)).mono n.i) (.cons ((hv'.mono e3).mono n.i) .nil))⟩
    simp [zipD, List.getElem?_zipWith, hd, hd']
  · cases e
/-! comprehensions that change nothing -/
def isEm (γ : List T) (k : Nat) : Bool := match γ[k]? with
  | some .em => true
  | none => true
  | _ => false
def lcP (g : D → List T → Option (List T)) (c : List T → Option Bool) (f : List T → Option D) (γ : List T) : List D → Option (List D)
  | [] => some []
  | d :: ds => (g d γ).bind fun γ1 => (c γ1).bind fun b => if b = true then (f γ1).bind fun y => (lcP g c f γ ds).map (y :: ·) else lcP g c f γ ds
def pLc (vs : List Nat) (it : List T → Option (List D)) (g : D → List T → Option (List T)) (c : List T → Option Bool) (f : List T → Option D) : List T → Option D := fun γ =>
  if vs.all (isEm γ) = true then (it γ).bind fun ds => if ds.length < sizeLine then (lcP g c f γ ds).map .lst else none else none
theorem EnvT.setX (y : Option V) : ∀ {γ : List T} {σ : Sg} {L : List Addr} (i : Nat), isEm γ i = true → EnvT K I H γ σ L → EnvT K I H γ (σ.set i y) L
  | _, _, _, _, _, .nil => .nil
  | _, _, _, 0, _, .em _ e => .em _ e
  | _, _, _, 0, h, .cons (L1 := L1) p e => by
    cases p with
    | em => exact .em _ e
    | _ => simp [isEm] at h
  | _, _, _, i + 1, h, .em x e => .em x (EnvT.setX y i (by simpa [isEm] using h) e)
  | _, _, _, i + 1, h, .cons (L1 := L1) p e => .cons p (EnvT.setX y i (by simpa [isEm] using h) e)
theorem EnvT.wipe (h : EnvT K I H γ σ L) : ∀ {vs : List Nat}, vs.all (isEm γ) = true → EnvT K I H γ (L2.wipe σ vs) L
  | [], _ => h
  | v :: vs, q => by
    simp only [List.all_cons, Bool.and_eq_true] at q
    exact EnvT.setX none v q.1 (EnvT.wipe h q.2)
theorem wipe_agr {vs : List Nat} {σ σ' : Sg} (h : Agr vs σ σ') : wipe σ' vs = wipe σ vs := by
  apply List.ext_getElem?
  intro i
  by_cases hi : i ∈ vs
  · have key : ∀ (ws : List Nat) (τ : Sg), i ∈ ws → (wipe τ ws)[i]? = if i < τ.length then some none else none := by
      intro ws
      induction ws with
      | nil => intro τ h; simp at h
      | cons w ws ih =>
        intro τ h
        show ((wipe τ ws).set w none)[i]? = _
        by_cases hw : w = i
        · subst hw
          rw [List.getElem?_set_self']
          have := wipe_length τ ws
          by_cases hlt : w < τ.length
          · rw [List.getElem?_eq_getElem (by omega), if_pos hlt]; rfl
          · rw [List.getElem?_eq_none (by omega), if_neg hlt]; rfl
        · rw [List.getElem?_set_ne hw]
          rcases List.mem_cons.mp h with h | h
          · exact absurd h.symm hw
          · exact ih τ h
    rw [key vs σ' hi, key vs σ hi, h.1]
  · rw [wipe_out hi, wipe_out hi]
    exact h.2 i hi
theorem lcP_le {g : D → List T → Option (List T)} {c : List T → Option Bool} {f : List T → Option D} {γ : List T} : ∀ {ds ys : List D}, lcP g c f γ ds = some ys → ys.length ≤ ds.length
  | [], _, e => by cases e; simp
  | d :: ds, ys, e => by
    unfold lcP at e
    obtain ⟨γ1, e1, e⟩ := Option.bind_eq_some_iff.mp e
    obtain ⟨b, e2, e⟩ := Option.bind_eq_some_iff.mp e
    split at e
    · obtain ⟨y, e3, e⟩ := Option.bind_eq_some_iff.mp e
      cases e4 : lcP g c f γ ds with
      | none => simp [e4] at e
      | some zs =>
        simp [e4] at e
        subst e
        have := lcP_le e4
        simp; omega
    · have := lcP_le e
      simp; omega
theorem lc_pure {fz : Bool} {wi : TI} {g : TG} {vs : List Nat} {it : List T → Option (List D)} {fg : D → List T → Option (List T)} {c : List T → Option Bool} {f : List T → Option D} (hi : ItS K fz wi it) (hg : RgS K vs g fg) (hc : PuT K tt c) (hf : Pu K te f) {ds zs : List D} (hem : vs.all (isEm γ) = true) (e1 : it γ = some ds) (hz : ds.length < sizeLine) (e2 : lcP fg c f γ ds = some zs) (W0 : WS K γ σ I H L) {Q : VK}
    (q : ∀ Dl acc I' H', H Dl = none → I' Dl = none → H' Dl = some (.lst acc) → IsA K I' acc zs → New I H I' H' → Ex I' H' → Q (.ref Dl) H') : tLc wi g tt te vs σ H Q := by
  refine hi γ ds e1 σ I H L W0 _ fun J I1 H1 Gd Y n1 s1 hG hw hy Dl hD => ?_
  have w1 := W0.new n1 s1
  -- the invariant: what is made, what is left
  refine lc_it hw (fun i H' => ∃ I' acc ys rest, New I1 H1 I' H' ∧ Ex I' H' ∧ I' Dl = none ∧ H' Dl = some (.lst acc) ∧ IsA K I' acc ys ∧ ys.length ≤ i ∧ lcP fg c f γ (ds.drop i) = some rest ∧ zs = ys ++ rest) ?_ (fun i H' _ q => ?_) (fun i x H' H2 hin q y => ?_) fun H' q' => ?_
  · exact ⟨I1, [], [], zs, ⟨Ex.refl I1, Ex.new hD, fun a o h => .inl h⟩, fun a o h => Ex.new hD a o (w1.sub a o h), w1.sub.back hD, upd_same, .nil, by simp, by simpa using e2, rfl⟩
  · obtain ⟨I', acc, ys, rest, n, e, _⟩ := q
    exact hG H' (n.i.trans e) fun _ => n.h
  · obtain ⟨I', acc, ys, rest, n, e, hID, hHD, hA, hyl, hrest, hzs⟩ := q
    obtain ⟨d, I3, hd, n3, e3, hv⟩ := hy i I' H' x H2 hin n.i e y
    have hdrop : ds.drop i = d :: ds.drop (i + 1) := by
      obtain ⟨hlt, hde⟩ := List.getElem?_eq_some_iff.mp hd
      rw [List.drop_eq_getElem_cons hlt, hde]
    rw [hdrop] at hrest
    unfold lcP at hrest
    obtain ⟨γ1, g1, hrest⟩ := Option.bind_eq_some_iff.mp hrest
    obtain ⟨b, g2, hrest⟩ := Option.bind_eq_some_iff.mp hrest
    have nn := n.trans n3
    have w3 : WS K γ (wipe σ vs) I3 H2 L := by
      have := w1.new nn e3
      exact ⟨this.env.wipe hem, this.nd, this.fr, this.sub⟩
    have hD2 : H2 Dl = some (.lst acc) := n3.h _ _ hHD
    have hI3 : I3 Dl = none := by
      cases q : I3 Dl with
      | none => rfl
      | some o =>
        rcases n3.n Dl o q with z | z
        · rw [hID] at z; cases z
        · rw [hHD] at z; cases z
    have out : ∀ {I6 H6 : Hp}, New I3 H2 I6 H6 → I6 Dl = none := fun {I6 H6} n6 => by
      cases q : I6 Dl with
      | none => rfl
      | some o =>
        rcases n6.n Dl o q with z | z
        · rw [hI3] at z; cases z
        · rw [hD2] at z; cases z
    refine hg d γ γ1 g1 x _ I3 H2 L w3 hv _ fun σ2 L4 w4 s4 a4 => ⟨(wipe_agr a4).trans (wipe_idem vs σ), ?_⟩
    refine hc γ1 b g2 σ2 I3 H2 L4 w4 _ fun I5 H5 n5 s5 => ?_
    cases b with
    | true =>
      obtain ⟨y1, g3, hrest⟩ := Option.bind_eq_some_iff.mp (show (f γ1).bind (fun y => (lcP fg c f γ (ds.drop (i + 1))).map (y :: ·)) = some rest from hrest)
      cases g4 : lcP fg c f γ (ds.drop (i + 1)) with
      | none => simp [g3, g4] at hrest
      | some rs =>
        have er : rest = y1 :: rs := by
          rw [g4] at hrest
          simp [g3] at hrest
          exact hrest.symm
        show te σ2 H5 _
        refine hf γ1 y1 g3 σ2 I5 H5 L4 (w4.new n5 s5) _ fun u I6 H6 n6 s6 hu => ?_
        have n56 := n5.trans n6
        have n6' := nn.trans n56
        refine ⟨acc, n56.h _ _ hD2, by rw [hA.length]; omega, I6, acc ++ [u], ys ++ [y1], rs, ⟨n6'.i, fun a o h => ?_, n6'.n⟩, fun a o h => ?_, out n56, upd_same, ?_, by simp; omega, rfl, by rw [hzs, er]; simp⟩
        · rw [upd_ne (ne_of_none h hD)]
          exact n6'.h a o h
        · have hne : a ≠ Dl := fun e => by
            subst e
            rw [out n56] at h
            cases h
          rw [upd_ne hne]
          exact s6 a o h
        · exact IsA.append (hA.mono (n3.i.trans n56.i)) (.cons hu .nil)
    | false =>
      show ∃ I' acc ys rest, _
      exact ⟨I5, acc, ys, rest, nn.trans n5, s5, out n5, n5.h _ _ hD2, hA.mono (n3.i.trans n5.i), by omega, by simpa using hrest, hzs⟩
  · obtain ⟨I', acc, ys, rest, n, e, hID, hHD, hA, _, hrest, hzs⟩ := q'
    rw [List.drop_length] at hrest
    cases hrest
    rw [List.append_nil] at hzs
    subst hzs
    exact q Dl acc I' H' (n1.h.back hD) hID hHD hA (n1.trans n) e
theorem pu_lc {fz : Bool} {wi : TI} {g : TG} {vs : List Nat} {it : List T → Option (List D)} {fg : D → List T → Option (List T)} {c : List T → Option Bool} {f : List T → Option D} (hi : ItS K fz wi it) (hg : RgS K vs g fg) (hc : PuT K tt c) (hf : Pu K te f) : Pu K (tLc wi g tt te vs) (pLc vs it fg c f) := fun γ z e σ I H L W0 Q q => by
  unfold pLc at e
  split at e
  · rename_i hem
    obtain ⟨ds, e1, e⟩ := Option.bind_eq_some_iff.mp e
    split at e
    · rename_i hz
      cases e2 : lcP fg c f γ ds with
      | none => simp [e2] at e
      | some zs =>
        simp [e2] at e
        subst e
        refine lc_pure hi hg hc hf hem e1 hz e2 W0 fun Dl acc I' H' h0 hID hHD hA n e => ?_
        have ei : Ex I' (upd I' Dl (.lst acc)) := Ex.new hID
        refine q (.ref Dl) (upd I' Dl (.lst acc)) H' ⟨n.i.trans ei, n.h, fun a o h => ?_⟩ (fun a o h => ?_) (.lst (sq_of upd_same) (hA.mono ei))
        · by_cases hd : a = Dl
          · subst hd
            exact .inr h0
          · rw [upd_ne hd] at h
            exact n.n a o h
        · by_cases hd : a = Dl
          · subst hd
            rw [upd_same] at h
            cases h
            exact hHD
          · rw [upd_ne hd] at h
            exact e a o h
    · cases e
  · cases e
end
end FD

/-! FS6: statements, defs. -/
namespace FD
open PySem PySem.Spec PyProof.Rows L2

section
variable {K : PySem.W.Frag} {wr : List Nat} {W : WX'} {ta tb tc te to : TE} {tt tu : TT} {ts tv : TS} {I I' H H' : Hp} {γ γ' : List T} {σ : Sg} {L : List Addr} {v : V} {x : D}
def sNext : List T → Option O := fun γ => some (.nx γ)
theorem rs_next : RunS K wr W tNext sNext := fun γ o e σ I H L w Dn p => by
  cases e
  exact p σ I H L w (Step.refl _ _ _) (.refl σ)
def sSeq (f g : List T → Option O) : List T → Option O := fun γ => (f γ).bind fun o => match o with
  | .nx γ1 => g γ1
  | o => some o
theorem rs_seq {f g : List T → Option O} (h1 : RunS K wr W ts f) (h2 : RunS K wr W tv g) : RunS K wr W (tSeq ts tv) (sSeq f g) := fun γ o e σ I H L w Dn p => by
  unfold sSeq at e
  obtain ⟨o1, e1, e2⟩ := Option.bind_eq_some_iff.mp e
  show ts { Dn with nx := tv Dn } σ H
  cases o1 with
  | nx γ1 => exact h1 γ _ e1 σ I H L w { Dn with nx := tv Dn } fun σ' I' H' L' w' s a => h2 γ1 o e2 σ' I' H' L' w' Dn (p.later s a)
  | rt r γ1 => cases e2; exact h1 γ _ e1 σ I H L w { Dn with nx := tv Dn } p
  | bk γ1 => cases e2; exact h1 γ _ e1 σ I H L w { Dn with nx := tv Dn } p
  | ct γ1 => cases e2; exact h1 γ _ e1 σ I H L w { Dn with nx := tv Dn } p
  | xc C fs γ1 => cases e2; exact h1 γ _ e1 σ I H L w { Dn with nx := tv Dn } p
/-- x = e -/
def sAsg (i : Nat) (f : List T → Option (T × List T)) : List T → Option O := fun γ => (f γ).map fun q => .nx (q.2.set i q.1)
theorem rs_asg {i : Nat} {f : List T → Option (T × List T)} (hf : Ef K te f) (hi : i ∈ wr) : RunS K wr W (tAsg te (gName i)) (sAsg i f) := fun γ o e σ I H L w Dn p => by
  unfold sAsg at e
  cases e1 : f γ with
  | none => simp [e1] at e
  | some q =>
    obtain ⟨t, γ1⟩ := q
    simp [e1] at e
    subst e
    exact hf γ t γ1 e1 σ I H L w _ fun v I1 H1 L1 w1 s1 => by
      obtain ⟨L2, w2, s2⟩ := w1.setF i
      exact p _ I1 H1 L2 w2 (s1.trans s2) (.set hi)
/-- forced to data -/
def eD (f : List T → Option (T × List T)) : List T → Option (T × List T) := fun γ => (f γ).bind fun q => q.1.toD.map fun x => (.d x, q.2)
theorem ef_d {f : List T → Option (T × List T)} (hf : Ef K te f) : Ef K te (eD f) := fun γ t γ' e σ I H L w Q k => by
  unfold eD at e
  obtain ⟨⟨u, γ1⟩, e1, e⟩ := Option.bind_eq_some_iff.mp e
  cases e2 : u.toD with
  | none => simp [e2] at e
  | some x =>
    simp [e2] at e
    obtain ⟨rfl, rfl⟩ := e
    exact hf γ u γ1 e1 σ I H L w _ fun v I1 H1 L1 w1 s1 => by
      obtain ⟨I2, L2, w2, s2, hv⟩ := w1.frz e2
      exact k v I2 H1 L2 (w2.front hv) (s1.trans s2)
/-- x = e, kept as data -/
def sAsgD (i : Nat) (f : List T → Option (T × List T)) : List T → Option O := fun γ => (f γ).bind fun q => q.1.toD.map fun x => .nx (q.2.set i (.d x))
theorem rs_asgD {i : Nat} {f : List T → Option (T × List T)} (hf : Ef K te f) (hi : i ∈ wr) : RunS K wr W (tAsg te (gName i)) (sAsgD i f) := fun γ o e σ I H L w Dn p => by
  unfold sAsgD at e
  obtain ⟨⟨t, γ1⟩, e1, e⟩ := Option.bind_eq_some_iff.mp e
  cases e2 : t.toD with
  | none => simp [e2] at e
  | some x =>
    simp [e2] at e
    subst e
    exact hf γ t γ1 e1 σ I H L w _ fun v I1 H1 L1 w1 s1 => by
      obtain ⟨I2, L2, w2, s2, hv⟩ := w1.frz e2
      obtain ⟨L3, w3, s3⟩ := (w2.front hv).setF i
      exact p _ I2 H1 L3 w3 ((s1.trans s2).trans s3) (.set hi)
/-- targets = e -/
def sAsgG (g : D → List T → Option (List T)) (f : List T → Option (T × List T)) : List T → Option O := fun γ => (f γ).bind fun q => q.1.toD.bind fun x => (g x q.2).map .nx
theorem rs_asgG {g : TG} {fg : D → List T → Option (List T)} {f : List T → Option (T × List T)} (hf : Ef K te f) (hg : RgS K wr g fg) : RunS K wr W (tAsg te g) (sAsgG fg f) := fun γ o e σ I H L w Dn p => by
  unfold sAsgG at e
  obtain ⟨⟨t, γ1⟩, e1, e⟩ := Option.bind_eq_some_iff.mp e
  obtain ⟨x, e2, e⟩ := Option.bind_eq_some_iff.mp e
  cases e3 : fg x γ1 with
  | none => simp [e3] at e
  | some γ2 =>
    simp [e3] at e
    subst e
    exact hf γ t γ1 e1 σ I H L w _ fun v I1 H1 L1 w1 s1 => by
      obtain ⟨I2, L2, w2, s2, hv⟩ := w1.frz e2
      exact hg x γ1 γ2 e3 v σ I2 H1 L2 w2 hv _ fun σ' L' w' s' a' => p σ' I2 H1 L' w' ((s1.trans s2).trans s') a'
/-- x, y = a, b : one by one -/
def sPar (js : List Nat) (g : List T → Option (List T × List T)) : List T → Option O := fun γ => (g γ).bind fun q => if q.1.length = js.length then some (.nx ((js.zip q.1).foldl (fun γ p => γ.set p.1 p.2) q.2)) else none
theorem WS.setF2 {t u : T} {v w' : V} (w : WS K (t :: u :: γ) (some v :: some w' :: σ) I H L) (i j : Nat) (hij : i ≠ j) : ∃ L', WS K ((γ.set i t).set j u) ((σ.set i (some v)).set j (some w')) I H L' ∧ Step I H L I H L' := by
  obtain ⟨L1, L2, rfl, w2, hold⟩ := w.hold
  obtain ⟨L3, w3, s3⟩ := w2.setF j
  obtain ⟨w4, s4⟩ := hold w3 s3
  obtain ⟨L5, w5, s5⟩ := w4.setF i
  rw [List.set_comm _ _ (Ne.symm hij), List.set_comm (some w') (some v) (Ne.symm hij)] at w5
  exact ⟨L5, w5, s4.trans s5⟩
theorem rs_par {i j : Nat} {g : List T → Option (List T × List T)} {bs : List (Option Nat)} {tr : TA} (hg : EfA K tr bs g) (hb : bs = [none, none]) (hij : i ≠ j) (hi : i ∈ wr) (hj : j ∈ wr) : RunS K wr W (tPar i j tr) (sPar [i, j] g) := fun γ o e σ I H L w Dn p => by
  unfold sPar at e
  obtain ⟨⟨us, γ1⟩, e1, e⟩ := Option.bind_eq_some_iff.mp e
  split at e
  · rename_i hl
    cases e
    match us, hl with
    | [t, u], _ =>
      refine hg γ _ γ1 e1 σ I H L w _ fun vs I1 H1 L1 w1 s1 hbr => ?_
      subst hb
      obtain ⟨v, ws, rfl, v2, ws2, rfl, h3⟩ := hbr
      cases (show ws2 = [] from h3)
      obtain ⟨L2, w2, s2⟩ := WS.setF2 w1 i j hij
      exact ⟨v, v2, rfl, p _ I1 H1 L2 w2 (s1.trans s2) ((Agr.set hi).trans (.set hj))⟩
  · cases e
theorem WS.setF3 {t u z : T} {v w' y : V} (w : WS K (t :: u :: z :: γ) (some v :: some w' :: some y :: σ) I H L) (i j k : Nat) (hij : i ≠ j) (hik : i ≠ k) (hjk : j ≠ k) : ∃ L', WS K (((γ.set i t).set j u).set k z) (((σ.set i (some v)).set j (some w')).set k (some y)) I H L' ∧ Step I H L I H L' := by
  obtain ⟨L1, L2, rfl, w2, hold⟩ := w.hold
  obtain ⟨L3, w3, s3⟩ := WS.setF2 w2 j k hjk
  obtain ⟨w4, s4⟩ := hold w3 s3
  obtain ⟨L5, w5, s5⟩ := w4.setF i
  rw [List.set_comm _ _ (Ne.symm hik), List.set_comm _ _ (Ne.symm hij), List.set_comm (some y) (some v) (Ne.symm hik), List.set_comm (some w') (some v) (Ne.symm hij)] at w5
  exact ⟨L5, w5, s4.trans s5⟩
theorem rs_par3 {i j k : Nat} {g : List T → Option (List T × List T)} {bs : List (Option Nat)} {tr : TA} (hg : EfA K tr bs g) (hb : bs = [none, none, none]) (hij : i ≠ j) (hik : i ≠ k) (hjk : j ≠ k) (hi : i ∈ wr) (hj : j ∈ wr) (hk : k ∈ wr) : RunS K wr W (tPar3 i j k tr) (sPar [i, j, k] g) := fun γ o e σ I H L w Dn p => by
  unfold sPar at e
  obtain ⟨⟨us, γ1⟩, e1, e⟩ := Option.bind_eq_some_iff.mp e
  split at e
  · rename_i hl
    cases e
    match us, hl with
    | [t, u, z], _ =>
      refine hg γ _ γ1 e1 σ I H L w _ fun vs I1 H1 L1 w1 s1 hbr => ?_
      subst hb
      obtain ⟨v, ws, rfl, v2, ws2, rfl, v3, ws3, rfl, h3⟩ := hbr
      cases (show ws3 = [] from h3)
      obtain ⟨L2, w2, s2⟩ := WS.setF3 w1 i j k hij hik hjk
      exact ⟨v, v2, v3, rfl, p _ I1 H1 L2 w2 (s1.trans s2) (((Agr.set hi).trans (.set hj)).trans (.set hk))⟩
  · cases e
/-- return e -/
def sRet (f : List T → Option (T × List T)) : List T → Option O := fun γ => (f γ).map fun q => .rt q.1 q.2
theorem rs_ret {f : List T → Option (T × List T)} (hf : Ef K te f) : RunS K wr W (tRet te) (sRet f) := fun γ o e σ I H L w Dn p => by
  unfold sRet at e
  cases e1 : f γ with
  | none => simp [e1] at e
  | some q =>
    obtain ⟨t, γ1⟩ := q
    simp [e1] at e
    subst e
    exact hf γ t γ1 e1 σ I H L w _ fun v I1 H1 L1 w1 s1 => p v σ I1 H1 L1 w1 s1 (.refl σ)
def sRetN : List T → Option O := fun γ => some (.rt (.d .non) γ)
theorem rs_retN : RunS K wr W tRetN sRetN := fun γ o e σ I H L w Dn p => by
  cases e
  exact p .non σ I H L (w.front .non) (Step.refl _ _ _) (.refl σ)
/-- return x, x a slot's own thing: moved out -/
def eMov (i : Nat) : List T → Option (T × List T) := fun γ => match γ[i]? with
  | some (.d x) => some (.d x, γ)
  | some .em => none
  | some t => some (t, γ.set i .em)
  | none => none
theorem WS.outF {i : Nat} {t : T} (w : WS K γ σ I H L) (h : γ[i]? = some t) (ht : t ≠ .em) : ∃ v, σ[i]? = some (some v) ∧ ∃ L', WS K (t :: γ.set i .em) (some v :: σ) I H L' ∧ Step I H L I H L' := by
  obtain ⟨v, h1, L', w', s'⟩ := WS.out (ts := []) (ws := []) w rfl h ht
  exact ⟨v, h1, L', w', s'⟩
theorem ef_mov (i : Nat) : Ef K (tVar i) (eMov i) := fun γ t γ' e σ I H L w Q k => by
  unfold eMov at e
  split at e
  · rename_i x h
    cases e
    obtain ⟨v, h1, h2⟩ := w.env.getD h
    exact ⟨v, h1, k v I H L (w.front h2) (Step.refl _ _ _)⟩
  · cases e
  · rename_i u n1 n2 h
    cases e
    obtain ⟨v, h1, L', w', s'⟩ := w.outF h (fun z => n2 z)
    exact ⟨v, h1, k v I H L' w' s'⟩
  · cases e
/-- e -/
def sExpr (f : List T → Option (T × List T)) : List T → Option O := fun γ => (f γ).map fun q => .nx q.2
theorem rs_expr {f : List T → Option (T × List T)} (hf : Ef K te f) : RunS K wr W (tDrop te) (sExpr f) := fun γ o e σ I H L w Dn p => by
  unfold sExpr at e
  cases e1 : f γ with
  | none => simp [e1] at e
  | some q =>
    obtain ⟨t, γ1⟩ := q
    simp [e1] at e
    subst e
    exact hf γ t γ1 e1 σ I H L w _ fun v I1 H1 L1 w1 s1 => by
      obtain ⟨L2, w2, s2, _⟩ := w1.tail
      exact p σ I1 H1 L2 w2 (s1.trans s2) (.refl σ)
def sBrk : List T → Option O := fun γ => some (.bk γ)
theorem rs_brk : RunS K wr W tBreak sBrk := fun γ o e σ I H L w Dn p => by
  cases e
  exact p σ I H L w (Step.refl _ _ _) (.refl σ)
def sCont : List T → Option O := fun γ => some (.ct γ)
theorem rs_cont : RunS K wr W tCont sCont := fun γ o e σ I H L w Dn p => by
  cases e
  exact p σ I H L w (Step.refl _ _ _) (.refl σ)
/-- if -/
def sIf (p : List T → Option (Bool × List T)) (f g : List T → Option O) : List T → Option O := fun γ => (p γ).bind fun q => if q.1 = true then f q.2 else g q.2
theorem rs_if {p : List T → Option (Bool × List T)} {f g : List T → Option O} (hp : EfT K tt p) (hf : RunS K wr W ts f) (hg : RunS K wr W tv g) : RunS K wr W (tIfS tt ts tv) (sIf p f g) := fun γ o e σ I H L w Dn q => by
  unfold sIf at e
  obtain ⟨⟨b, γ1⟩, e1, e2⟩ := Option.bind_eq_some_iff.mp e
  refine hp γ b γ1 e1 σ I H L w _ fun I1 H1 L1 w1 s1 => ?_
  cases b with
  | true =>
    show ts Dn σ H1
    exact hf γ1 o (by simpa using e2) σ I1 H1 L1 w1 Dn (q.later s1 (.refl σ))
  | false =>
    show tv Dn σ H1
    exact hg γ1 o (by simpa using e2) σ I1 H1 L1 w1 Dn (q.later s1 (.refl σ))
/-- unreachable -/
def sNo : List T → Option O := fun _ => none
theorem rs_no : RunS K wr W ts sNo := fun γ o e => nomatch e
def eNo : List T → Option (T × List T) := fun _ => none
theorem ef_no : Ef K te eNo := fun γ t γ' e => nomatch e
/-! for -/
/-- a walk whose source has effects -/
def ItE (K : PySem.W.Frag) (wi : TI) (f : List T → Option (List D × List T)) : Prop := ∀ γ ds γ', f γ = some (ds, γ') → ∀ σ I H L, WS K γ σ I H L → ∀ R : It → Hp → Prop,
  (∀ J I1 H1 L1 (G : Hp → Prop) Y, WS K γ' σ I1 H1 L1 → Step I H L I1 H1 L1 → (∀ H', Ex I1 H' → G H') → Walk J ds.length G Y →
    (∀ i I2 H2 x H3, i < ds.length → Ex I1 I2 → Ex I2 H2 → Y i H2 x H3 → ∃ d I3, ds[i]? = some d ∧ New I2 H2 I3 H3 ∧ Ex I3 H3 ∧ Is K I3 x d) → R J H1) → wi σ H R
def iP (f : List T → Option (List D)) : List T → Option (List D × List T) := fun γ => (f γ).map fun ds => (ds, γ)
theorem ite_p {wi : TI} {f : List T → Option (List D)} (h : ItS K true wi f) : ItE K wi (iP f) := fun γ ds γ' e σ I H L w R k => by
  unfold iP at e
  cases e1 : f γ with
  | none => simp [e1] at e
  | some zs =>
    simp [e1] at e
    obtain ⟨rfl, rfl⟩ := e
    exact h γ _ e1 σ I H L w R fun J I1 H1 G Y n1 s1 hG hw hy => k J I1 H1 L G Y (w.new n1 s1) n1.stp (fun H' e => hG H' e fun z => nomatch z) hw hy
def iR1E (f : List T → Option (T × List T)) : List T → Option (List D × List T) := fun γ => (f γ).bind fun q => match q.1 with
  | .d (.int n) => if -(2 ^ 62) ≤ n ∧ n < 2 ^ 62 then some (intsD 0 n.toNat, q.2) else none
  | _ => none
theorem ite_rng1 {f : List T → Option (T × List T)} (h : Ef K te f) : ItE K (iRng1 (tCons te tNil)) (iR1E f) := fun γ ds γ' e σ I H L w R k => by
  unfold iR1E at e
  obtain ⟨⟨t, γ1⟩, e1, e⟩ := Option.bind_eq_some_iff.mp e
  dsimp only at e
  split at e
  · rename_i n
    split at e
    · rename_i hn
      cases e
      refine h γ _ _ e1 σ I H L w _ fun v I1 H1 L1 w1 s1 => ?_
      obtain ⟨L2, w2, s2, h2⟩ := w1.tail
      obtain ⟨rfl, v', ev, hv⟩ := h2 _ rfl
      cases ev
      cases hv
      refine ⟨n, rfl, hn.1, hn.2, k _ I1 H1 _ (fun _ => True) (YFn fun i => .int (0 + (i : Nat))) w2 s1 (fun _ _ => trivial) (by simp only [intsD, List.length_map, List.length_range]; exact walk_range) fun i I2 H2 x H3 hi e1 e2 y => ?_⟩
      obtain ⟨rfl, rfl⟩ := y
      have hi' : i < n.toNat := by simpa [intsD] using hi
      exact ⟨.int (0 + (i : Nat)), I2, by simp [intsD, hi'], New.refl I2 _, e2, .int _⟩
    · cases e
  · cases e
/-- a source with effects, frozen -/
def iAnyE (f : List T → Option (T × List T)) : List T → Option (List D × List T) := fun γ => (f γ).bind fun q => q.1.toD.bind fun y => (walkD y).map fun ds => (ds, q.2)
theorem ite_any {f : List T → Option (T × List T)} (h : Ef K te f) : ItE K (iAny K te) (iAnyE f) := fun γ ds γ' e σ I H L w R k => by
  unfold iAnyE at e
  obtain ⟨⟨t, γ1⟩, e1, e⟩ := Option.bind_eq_some_iff.mp e
  obtain ⟨y, e2, e⟩ := Option.bind_eq_some_iff.mp e
  cases e3 : walkD y with
  | none => simp [e3] at e
  | some zs =>
    simp [e3] at e
    obtain ⟨rfl, rfl⟩ := e
    cases y <;> simp [walkD] at e3
    · rename_i s
      subst e3
      refine .inr (.inr (h γ t _ e1 σ I H L w _ fun v I1 H1 L1 w1 s1 => ?_))
      obtain ⟨I2, L2, w2, s2, hv⟩ := w1.frz e2
      cases hv
      refine ⟨s, rfl, k _ I2 H1 L2 (fun _ => True) _ w2 (s1.trans s2) (fun _ _ => trivial) (by simp only [signs, List.length_map, Array.length_toList]; exact walk_str) fun i I2 H2 x H3 hi e1 e2 y => ?_⟩
      obtain ⟨rfl, c, hc, rfl⟩ := y
      exact ⟨.str ⟨#[c]⟩, I2, by simp [signs, hc], New.refl I2 _, e2, .str _⟩
    · subst e3
      refine .inl (h γ t _ e1 σ I H L w _ fun v I1 H1 L1 w1 s1 => ?_)
      obtain ⟨I2, L2, w2, s2, hv⟩ := w1.frz e2
      cases hv with
      | @lst a xs _ h1 h2 =>
        have hl := h2.length
        refine ⟨a, rfl, ⟨xs, w2.sub.l h1⟩, k _ I2 H1 L2 (fun H' => SqL K H' a xs) (YAt xs) w2 (s1.trans s2) (fun H' e => e.l h1) (hl ▸ walk_list) fun i I2 H2 x H3 hi e3 e4 y => ?_⟩
        obtain ⟨rfl, hx⟩ := y
        obtain ⟨d, hd, hv⟩ := h2.get hx
        exact ⟨d, I2, hd, New.refl I2 _, e4, hv.mono e3⟩
    · subst e3
      refine .inr (.inl (h γ t _ e1 σ I H L w _ fun v I1 H1 L1 w1 s1 => ?_))
      obtain ⟨I2, L2, w2, s2, hv⟩ := w1.frz e2
      cases hv with
      | @tup a xs _ h1 h2 =>
        have hl := h2.length
        refine ⟨a, rfl, ⟨xs, w2.sub.t h1⟩, k _ I2 H1 L2 (fun H' => SqT K H' a xs) (YAt xs) w2 (s1.trans s2) (fun H' e => e.t h1) (hl ▸ walk_tup) fun i I2 H2 x H3 hi e3 e4 y => ?_⟩
        obtain ⟨rfl, hx⟩ := y
        obtain ⟨d, hd, hv⟩ := h2.get hx
        exact ⟨d, I2, hd, New.refl I2 _, e4, hv.mono e3⟩
def forS (g : D → List T → Option (List T)) (b : List T → Option O) : List D → List T → Option O
  | [], γ => some (.nx γ)
  | d :: ds, γ => (g d γ).bind fun γ1 => (b γ1).bind fun o => match o with
    | .nx γ2 => forS g b ds γ2
    | .ct γ2 => forS g b ds γ2
    | .bk γ2 => some (.nx γ2)
    | o => some o
def sFor (it : List T → Option (List D × List T)) (g : D → List T → Option (List T)) (b : List T → Option O) : List T → Option O := fun γ => (it γ).bind fun q => forS g b q.1 q.2
theorem rs_for {wi : TI} {g : TG} {it : List T → Option (List D × List T)} {fg : D → List T → Option (List T)} {f : List T → Option O} (hi : ItE K wi it) (hg : RgS K wr g fg) (hf : RunS K wr W ts f) : RunS K wr W (tFor wi g ts) (sFor it fg f) := fun γ o e σ I H L w Dn p => by
  unfold sFor at e
  obtain ⟨⟨ds, γ0⟩, e1, e2⟩ := Option.bind_eq_some_iff.mp e
  refine hi γ ds γ0 e1 σ I H L w _ fun J I1 H1 L0 Gd Y w1 s0 hG hw hy => ?_
  refine for_it hw (fun i σ' H' => ∃ γi I' L', WS K γi σ' I' H' L' ∧ Step I1 H1 L0 I' H' L' ∧ Agr wr σ σ' ∧ forS fg f (ds.drop i) γi = some o) ⟨γ0, I1, L0, w1, Step.refl _ _ _, .refl σ, by simpa using e2⟩ (fun i σ' H' _ q => ?_) (fun i x σ' H' H2 hin q y => ?_) fun σ' H' q => ?_
  · obtain ⟨γi, I', L', w', s', a', _⟩ := q
    exact hG H' (s'.i.trans w'.sub)
  · obtain ⟨γi, I', L', w', s', a', hfor⟩ := q
    obtain ⟨d, I3, hd, n3, e3, hv⟩ := hy i I' H' x H2 hin s'.i w'.sub y
    have hdrop : ds.drop i = d :: ds.drop (i + 1) := by
      obtain ⟨hlt, hde⟩ := List.getElem?_eq_some_iff.mp hd
      rw [List.drop_eq_getElem_cons hlt, hde]
    rw [hdrop] at hfor
    unfold forS at hfor
    obtain ⟨γ1, g1, hfor⟩ := Option.bind_eq_some_iff.mp hfor
    obtain ⟨o1, g2, hfor⟩ := Option.bind_eq_some_iff.mp hfor
    have w3 := w'.new n3 e3
    have s3 : Step I1 H1 L0 I3 H2 L' := s'.trans n3.stp
    refine hg d γi γ1 g1 x σ' I3 H2 L' w3 hv _ fun σ4 L4 w4 s4 a4 => ?_
    have s34 := s3.trans s4
    have a34 := a'.trans a4
    have pl : PostS K wr W Dn σ4 I3 H2 L4 o := p.later (s0.trans s34) a34
    refine hf γ1 o1 g2 σ4 I3 H2 L4 w4 _ ?_
    cases o1 with
    | nx γ2 => exact fun σ5 I5 H5 L5 w5 s5 a5 => ⟨γ2, I5, L5, w5, s34.trans s5, a34.trans a5, hfor⟩
    | ct γ2 => exact fun σ5 I5 H5 L5 w5 s5 a5 => ⟨γ2, I5, L5, w5, s34.trans s5, a34.trans a5, hfor⟩
    | bk γ2 =>
      cases hfor
      exact fun σ5 I5 H5 L5 w5 s5 a5 => pl σ5 I5 H5 L5 w5 s5 a5
    | rt r γ2 =>
      cases hfor
      exact pl
    | xc C fs γ2 =>
      cases hfor
      exact pl
  · obtain ⟨γi, I', L', w', s', a', hfor⟩ := q
    rw [List.drop_length] at hfor
    cases hfor
    exact p σ' I' H' L' w' (s0.trans s') a'
/-! defs -/
def T.isD : T → Bool
  | .d _ => true
  | .em => true
  | _ => false
/-- the parameters behind the body -/
def postP : List T → List T → List T
  | .d x :: ps, _ :: γ => .d x :: postP ps γ
  | .em :: ps, _ :: γ => .em :: postP ps γ
  | _ :: ps, t :: γ => t :: postP ps γ
  | _, _ => []
def okW (wr : List Nat) (pre : List T) : Bool := wr.all fun i => match pre[i]? with
  | some t => t.isD
  | none => true
/-- a def: its slots, the slots it writes, its body -/
def fnF (np n : Nat) (wr : List Nat) (b : List T → Option O) : FN := fun pre => if pre.length = np ∧ okW wr pre = true then (b (pre ++ List.replicate (n - pre.length) .em)).bind fun o => match o with
  | .rt r γ => some (.ret r (postP pre γ))
  | .nx γ => some (.ret (.d .non) (postP pre γ))
  | .xc C fs γ => some (.exc C fs (postP pre γ))
  | _ => none else none
theorem EnvT.more : ∀ {γ : List T} {σ : Sg} {L : List Addr} (n : Nat), EnvT K I H γ σ L → EnvT K I H (γ ++ List.replicate n .em) (σ ++ List.replicate n none) L
  | _, _, _, 0, .nil => .nil
  | _, _, _, n + 1, .nil => .em _ (EnvT.more n .nil)
  | _, _, _, n, .em x e => .em x (EnvT.more n e)
  | _, _, _, n, .cons p e => .cons p (EnvT.more n e)
theorem EnvT.post (e : Ex I I') : ∀ {pre γ : List T} {vs : List V} {σ' : Sg} {L L1 : List Addr}, (∀ (i : Nat) (t : T), pre[i]? = some t → t.isD = false → σ'[i]? = (vs.map some)[i]?) → EnvT K I H pre (vs.map some) L → pre.length ≤ γ.length → EnvT K I' H' γ σ' L1 → ∃ L', L'.Sublist L1 ∧ EnvT K I' H' (postP pre γ) (vs.map some) L'
  | [], _, [], _, _, L1, _, .nil, _, _ => ⟨[], List.nil_sublist _, .nil⟩
  | t :: pre, [], _, _, _, _, _, _, hl, _ => by simp at hl
  | t :: pre, u :: γ, [], _, _, _, _, h, _, _ => by cases h
  | t :: pre, u :: γ, v :: vs, σ', L, L1, hp, h, hl, g => by
    have step : ∀ {L0 : List Addr}, EnvT K I H pre (vs.map some) L0 → ∀ {y : Option V} {τ : Sg} {L2 : List Addr}, σ' = y :: τ → EnvT K I' H' γ τ L2 → ∃ L', L'.Sublist L2 ∧ EnvT K I' H' (postP pre γ) (vs.map some) L' := fun {L0} hr {y τ L2} eσ gr =>
      EnvT.post e (fun i t' ht hd => by
        have := hp (i + 1) t' (by simpa using ht) hd
        subst eσ
        simpa using this) hr (by simpa using hl) gr
    have hrest : ∃ L0 L3, EnvT K I H pre (vs.map some) L0 ∧ Ow K I H v t L3 := by
      cases h with
      | em x h => exact ⟨_, [], h, .em _⟩
      | cons p h => exact ⟨_, _, h, p⟩
    obtain ⟨L0, L3, hr, hv⟩ := hrest
    have fin : ∀ {y : Option V} {τ : Sg} {M1 M2 : List Addr}, σ' = y :: τ → L1 = M1 ++ M2 → EnvT K I' H' γ τ M2 → (t.isD = false → y = some v → ∃ M, M.Sublist M1 ∧ (M = [] ∧ u = .em ∨ Ow K I' H' v u M)) → ∃ L', L'.Sublist L1 ∧ EnvT K I' H' (postP (t :: pre) (u :: γ)) (some v :: vs.map some) L' := fun {y τ M1 M2} eσ eL gr hu => by
      obtain ⟨L', s, r⟩ := step hr eσ gr
      have yv : t.isD = false → y = some v := fun hd => by
        have := hp 0 t rfl hd
        subst eσ
        simpa using this
      have own : t.isD = false → ∃ L', L'.Sublist L1 ∧ EnvT K I' H' (u :: postP pre γ) (some v :: vs.map some) L' := fun hd => by
        obtain ⟨M, sM, hM⟩ := hu hd (yv hd)
        rcases hM with ⟨rfl, rfl⟩ | hM
        · exact ⟨L', by rw [eL]; exact s.trans (List.sublist_append_right _ _), .em _ r⟩
        · exact ⟨M ++ L', by rw [eL]; exact sM.append s, .cons hM r⟩
      cases t with
      | em => exact ⟨L', by rw [eL]; exact s.trans (List.sublist_append_right _ _), .em _ r⟩
      | d x =>
        cases hv with
        | d hv => exact ⟨L', by rw [eL]; exact s.trans (List.sublist_append_right _ _), .cons (L1 := []) (.d (hv.mono e)) r⟩
      | lst => exact own rfl
      | dic => exact own rfl
      | obj => exact own rfl
    cases g with
    | @em _ τ M y g => exact fin (M1 := []) rfl rfl g fun _ _ => ⟨[], List.Sublist.refl _, .inl ⟨rfl, rfl⟩⟩
    | @cons _ τ _ y M1 M2 p g => exact fin rfl rfl g fun _ hy => ⟨M1, List.Sublist.refl _, .inr (by cases hy; exact p)⟩
theorem body_okS {n np : Nat} {f : List T → Option O} {vs : List V} {Q : VK} {E : XK} {N : List Str} (hf : RunS K wr (fun cls d _ H' => E cls d H') ts f) (hn : N.length = n) (hle : np ≤ n)
    (h : spF K (fnF np n wr f) vs H Q E) : ts { nx := fun _ H' => Q .non H', rt := Q } (start N vs) H := by
  obtain ⟨pre, out, I, L, e, w, q⟩ := h
  unfold fnF at e
  split at e
  · rename_i hw
    obtain ⟨hnp, hw⟩ := hw
    obtain ⟨o, e1, e2⟩ := Option.bind_eq_some_iff.mp e
    have hl : pre.length = vs.length := by simpa using w.env.len
    have w0 : WS K (pre ++ List.replicate (n - pre.length) .em) (start N vs) I H L := ⟨by
      have := EnvT.more (n - pre.length) w.env
      rw [show start N vs = vs.map some ++ List.replicate (n - pre.length) none from by rw [hl, ← hn]; rfl]
      exact this, w.nd, w.fr, w.sub⟩
    have hlN : (start N vs).length = n := by
      have := w0.env.len
      simp at this
      omega
    have pin : ∀ {σ' : Sg}, Agr wr (start N vs) σ' → ∀ (i : Nat) (t : T), pre[i]? = some t → t.isD = false → σ'[i]? = (vs.map some)[i]? := fun {σ'} a i t ht hd => by
      have hi : i ∉ wr := fun hm => by
        have := List.all_eq_true.mp hw i hm
        rw [ht] at this
        dsimp only at this
        rw [hd] at this
        cases this
      rw [a.2 i hi]
      have hlt : i < pre.length := (List.getElem?_eq_some_iff.mp ht).1
      show (vs.map some ++ List.replicate (N.length - vs.length) none)[i]? = _
      rw [List.getElem?_append_left (by simp; omega)]
    have fin : ∀ {σ' : Sg} {I' H' : Hp} {L' : List Addr} {γ : List T}, WS K γ σ' I' H' L' → Step I H L I' H' L' → Agr wr (start N vs) σ' → ∃ L2, WS K (postP pre γ) (vs.map some) I' H' L2 ∧ Step I' H' L' I' H' L2 := fun {σ' I' H' L' γ} w' s' a' => by
      have hγ : pre.length ≤ γ.length := by
        rw [w'.env.len, a'.1, hlN]; omega
      obtain ⟨L2, sl, e⟩ := EnvT.post s'.i (pin a') w.env hγ w'.env
      exact ⟨L2, ⟨e, w'.nd.sublist sl, fun a ha => w'.fr a (sl.subset ha), w'.sub⟩, Step.sublist sl⟩
    refine hf _ o e1 (start N vs) I H L w0 _ ?_
    cases o with
    | rt r γ =>
      cases e2
      intro v σ' I' H' L' w' s' a'
      obtain ⟨M1, M2, rfl, w2, hold⟩ := w'.hold
      obtain ⟨L3, w3, s3⟩ := fin (L' := M2) w2 ⟨s'.i, fun a o h hl => s'.keep a o h hl, fun a h => s'.l a (by simp [h]), fun a o h => s'.n a o h⟩ a'
      obtain ⟨w4, s4⟩ := hold w3 s3
      exact q v I' H' _ w4 (s'.trans s4)
    | nx γ =>
      cases e2
      intro σ' I' H' L' w' s' a'
      obtain ⟨L3, w3, s3⟩ := fin w' s' a'
      exact q .non I' H' L3 (w3.front .non) (s'.trans s3)
    | xc C fs γ =>
      cases e2
      intro d σ' I' H' L' w' s' a' hx
      obtain ⟨L3, w3, s3⟩ := fin w' s' a'
      obtain ⟨kvs, x1, x2, x3, x4⟩ := hx
      exact q d I' H' L3 w3 (s'.trans s3) ⟨kvs, x1, fun z => (s3.l d z).elim x2 (fun y => by rw [x1] at y; cases y), x3, x4⟩
    | bk γ => cases e2
    | ct γ => cases e2
  · cases e
variable {P : Program} {w : PySem.World} {mg : Str → Option Value} {base : Heap}
/-- THE RULE for a def that raises nothing -/
theorem spF_len {np n : Nat} {wr : List Nat} {fb : List T → Option O} {vs : List V} {H : Hp} {Q : VK} {E : XK} (h : spF K (fnF np n wr fb) vs H Q E) : vs.length = np := by
  obtain ⟨pre, out, I, L, e, w, q⟩ := h
  unfold fnF at e
  split at e
  · rename_i h
    rw [← h.1]
    have := w.env.len
    simpa using this.symm
  · cases e
theorem okF {x qual : Str} {st : Stmt} {f : Addr} {fd : FuncData} {N ps : List Str} {k : Nat} {fb : List T → Option O} {wr : List Nat} {n np : Nat} (F : Fun K x qual st f fd) (S : FnScope N ps (defScope st)) (hn : N.length = n) (hnp : ps.length = np) (hle : np ≤ n)
    (hbody : ∀ (cdv : Value) (A : Around) (outer : List Env) (s : Shared) (H : Hp) (E : XK), Room k (A.deeper (envOfC qual (defScope st) s.heap.objs.size f cdv)) →
      ∃ t, PSs (cxOf CX0 P w K mg base N qual (defScope st) f cdv A outer s H E).nox (defBody st) t ∧ RunS K wr (fun cls d _ H' => E cls d H') t fb) : FnOk P w K mg base CX0 (k + 1) f fd ps (spF K (fnF np n wr fb)) := by
  refine F.ok S (fun vs H Q E h => (spF_len h).trans hnp.symm) fun cdv A outer s H vs Q E hr h => ?_
  obtain ⟨t, ht, hb⟩ := hbody cdv A outer s H E hr
  exact ⟨t, ht, body_okS hb hn hle h⟩
end
end FD

/-! FS7: comprehensions of one's own, with effects; places. -/
namespace FD
open PySem PySem.Spec PyProof.Rows L2
section
variable {K : PySem.W.Frag} {wr : List Nat} {W : WX'} {ta tb tc te to td ty tx : TE} {tt tu : TT} {ts tv : TS} {I I' H H' : Hp} {γ γ' : List T} {σ : Sg} {L : List Addr} {v : V} {x : D}
/-- a comprehension of pure parts, one's own list -/
def eLcO (vs : List Nat) (it : List T → Option (List D)) (g : D → List T → Option (List T)) (c : List T → Option Bool) (f : List T → Option D) : List T → Option (T × List T) := fun γ =>
  if vs.all (isEm γ) = true then (it γ).bind fun ds => if ds.length < sizeLine then (lcP g c f γ ds).map fun zs => (.lst zs, γ) else none else none
theorem WS.layD {a : Addr} {acc : List V} {zs : List D} (w : WS K γ σ I H L) (h0 : H a = none) (hI : I' a = none) (hH : H' a = some (.lst acc)) (hA : IsA K I' acc zs) (n : New I H I' H') (e : Ex I' H') : WS K (.lst zs :: γ) (some (.ref a) :: σ) I' H' (a :: L) ∧ Step I H L I' H' (a :: L) := by
  have w1 := w.new n e
  have ha : a ∉ L := fun h => w.live a h h0
  refine ⟨⟨.cons (L1 := [a]) (.lst hH hA) w1.env, List.nodup_cons.mpr ⟨ha, w.nd⟩, fun b hb => ?_, e⟩, ⟨n.i, fun b o h _ => n.h b o h, fun b hb => ?_, fun b o h => (n.n b o h).elim .inl fun z => .inr (.inr z)⟩⟩
  · rcases List.mem_cons.mp hb with rfl | hb
    · exact hI
    · exact w1.fr b hb
  · rcases List.mem_cons.mp hb with rfl | hb
    · exact .inr h0
    · exact .inl hb
theorem ef_lcO {fz : Bool} {wi : TI} {g : TG} {vs : List Nat} {it : List T → Option (List D)} {fg : D → List T → Option (List T)} {c : List T → Option Bool} {f : List T → Option D} (hi : ItS K fz wi it) (hg : RgS K vs g fg) (hc : PuT K tt c) (hf : Pu K te f) : Ef K (tLc wi g tt te vs) (eLcO vs it fg c f) := fun γ t γ' e σ I H L W0 Q q => by
  unfold eLcO at e
  split at e
  · rename_i hem
    obtain ⟨ds, e1, e⟩ := Option.bind_eq_some_iff.mp e
    split at e
    · rename_i hz
      cases e2 : lcP fg c f γ ds with
      | none => simp [e2] at e
      | some zs =>
        simp [e2] at e
        obtain ⟨rfl, rfl⟩ := e
        refine lc_pure hi hg hc hf hem e1 hz e2 W0 fun Dl acc I' H' h0 hID hHD hA n e => ?_
        obtain ⟨w', s'⟩ := W0.layD h0 hID hHD hA n e
        exact q _ I' H' _ w' s'
    · cases e
  · cases e
/-! with effects -/
def unset (vs : List Nat) (γ : List T) : List T := vs.foldr (fun k γ => γ.set k .em) γ
def lcE (vs : List Nat) (g : D → List T → Option (List T)) (c : List T → Option (Bool × List T)) (f : List T → Option (T × List T)) : List D → List T → Option (List D × List T)
  | [], γ => some ([], γ)
  | d :: ds, γ => (g d γ).bind fun γ1 => (c γ1).bind fun p => if p.1 = true then (f p.2).bind fun q => q.1.toD.bind fun y => (lcE vs g c f ds (unset vs q.2)).map fun r => (y :: r.1, r.2) else lcE vs g c f ds (unset vs p.2)
def eLc (vs : List Nat) (it : List T → Option (List D × List T)) (g : D → List T → Option (List T)) (c : List T → Option (Bool × List T)) (f : List T → Option (T × List T)) : List T → Option (T × List T) := fun γ =>
  if vs.all (isEm γ) = true then (it γ).bind fun p => if vs.all (isEm p.2) = true ∧ p.1.length < sizeLine then (lcE vs g c f p.1 p.2).bind fun r => if vs.all (isEm r.2) = true then some (.lst r.1, r.2) else none else none else none
theorem WS.wipeU : ∀ {vs : List Nat} {γ : List T} {σ : Sg} {L : List Addr}, WS K γ σ I H L → ∃ L', WS K (unset vs γ) (wipe σ vs) I H L' ∧ Step I H L I H L'
  | [], _, _, L, w => ⟨L, w, Step.refl _ _ _⟩
  | k :: vs, γ, σ, L, w => by
    obtain ⟨L1, w1, s1⟩ := WS.wipeU (vs := vs) w
    obtain ⟨L2, w2, s2⟩ := w1.setE none k
    exact ⟨L2, w2, s1.trans s2⟩
theorem EnvT.unset (y : Option V) : ∀ {γ : List T} {σ : Sg} {L : List Addr} (i : Nat), isEm γ i = true → EnvT K I H γ (σ.set i y) L → EnvT K I H γ σ L
  | _, [], _, _, _, e => by simpa using e
  | _, s :: σ, _, 0, h, e => by
    rw [List.set_cons_zero] at e
    cases e with
    | em _ e => exact .em _ e
    | cons p e =>
      cases p with
      | em => exact .em _ e
      | _ => simp [isEm] at h
  | _, s :: σ, _, i + 1, h, e => by
    rw [List.set_cons_succ] at e
    cases e with
    | em _ e => exact .em _ (EnvT.unset y i (by simpa [isEm] using h) e)
    | cons p e => exact .cons p (EnvT.unset y i (by simpa [isEm] using h) e)
theorem EnvT.unwipe : ∀ {vs : List Nat}, vs.all (isEm γ) = true → EnvT K I H γ (L2.wipe σ vs) L → EnvT K I H γ σ L
  | [], _, h => h
  | v :: vs, q, h => by
    simp only [List.all_cons, Bool.and_eq_true] at q
    exact EnvT.unwipe q.2 (EnvT.unset none v q.1 h)
/-- a list that is being made, beside steps -/
theorem WS.side {p : Addr} {xs : List V} (w : WS K γ σ I H L) (hp : H p = some (.lst xs)) (hI : I p = none) (hL : p ∉ L) {I' H' : Hp} {L' : List Addr} (s : Step I H L I' H' L') : H' p = some (.lst xs) ∧ I' p = none ∧ p ∉ L' := by
  refine ⟨s.keep p _ hp hL, ?_, fun h => (s.l p h).elim hL fun z => by rw [hp] at z; cases z⟩
  cases e : I' p with
  | none => rfl
  | some o =>
    rcases s.n p o e with q | q | q
    · rw [hI] at q; cases q
    · exact absurd q hL
    · rw [hp] at q; cases q
/-- the world where p holds another list -/
theorem WS.poke {p : Addr} {o : HO} (w : WS K γ σ I H L) (hI : I p = none) (hL : p ∉ L) : WS K γ σ I (upd H p o) L :=
  ⟨w.env.keep (Ex.refl I) fun a h => upd_ne fun e => hL (e ▸ h), w.nd, w.fr, fun a u h => by rw [upd_ne (ne_of_none h hI)]; exact w.sub a u h⟩
theorem ef_lcE {wi : TI} {g : TG} {vs : List Nat} {it : List T → Option (List D × List T)} {fg : D → List T → Option (List T)} {c : List T → Option (Bool × List T)} {f : List T → Option (T × List T)} (hi : ItE K wi it) (hg : RgS K vs g fg) (hc : EfT K tt c) (hf : Ef K te f) : Ef K (tLc wi g tt te vs) (eLc vs it fg c f) := fun γ t γ' e σ I H L W0 Q q => by
  unfold eLc at e
  split at e
  · rename_i hem0
    obtain ⟨⟨ds, γ0⟩, e1, e⟩ := Option.bind_eq_some_iff.mp e
    split at e
    · rename_i hz
      obtain ⟨hem, hz⟩ := hz
      replace hz : ds.length < sizeLine := hz
      obtain ⟨⟨zs, γe⟩, e2, e⟩ := Option.bind_eq_some_iff.mp e
      split at e
      · rename_i hem2
        cases e
        refine hi γ ds γ0 e1 σ I H L W0 _ fun J I1 H1 L0 Gd Y w1 s0 hG hw hy Dl hD => ?_
        have hDL : Dl ∉ L0 := fun h => w1.live Dl h hD
        -- the steps go beside the list that is made: over the heap with it
        refine lc_it hw (fun i H' => ∃ γi I' L' acc ys rest, WS K γi (wipe σ vs) I' H' L' ∧ Step I1 H1 L0 I' H' L' ∧ I' Dl = none ∧ Dl ∉ L' ∧ H' Dl = some (.lst acc) ∧ IsA K I' acc ys ∧ ys.length ≤ i ∧ lcE vs fg c f (ds.drop i) γi = some (rest, γe) ∧ zs = ys ++ rest) ?_ (fun i H' _ q => ?_) (fun i x H' H2 hin q y => ?_) fun H' q' => ?_
        · refine ⟨γ0, I1, L0, [], [], zs, ?_, ⟨Ex.refl I1, fun a o h _ => Ex.new hD a o h, fun a h => .inl h, fun a o h => .inl h⟩, w1.sub.back hD, hDL, upd_same, .nil, by simp, by simpa using e2, rfl⟩
          have := w1.poke (o := .lst []) (w1.sub.back hD) hDL
          exact ⟨this.env.wipe hem, this.nd, this.fr, this.sub⟩
        · obtain ⟨γi, I', L', acc, ys, rest, w', s', _⟩ := q
          exact hG H' (s'.i.trans w'.sub)
        · obtain ⟨γi, I', L', acc, ys, rest, w', s', hID, hDL', hHD, hA, hyl, hrest, hzs⟩ := q
          obtain ⟨d, I3, hd, n3, e3, hv⟩ := hy i I' H' x H2 hin s'.i w'.sub y
          have hdrop : ds.drop i = d :: ds.drop (i + 1) := by
            obtain ⟨hlt, hde⟩ := List.getElem?_eq_some_iff.mp hd
            rw [List.drop_eq_getElem_cons hlt, hde]
          rw [hdrop] at hrest
          unfold lcE at hrest
          obtain ⟨γ1, g1, hrest⟩ := Option.bind_eq_some_iff.mp hrest
          obtain ⟨⟨b, γ2⟩, g2, hrest⟩ := Option.bind_eq_some_iff.mp hrest
          have w3 := w'.new n3 e3
          obtain ⟨hD3, hI3, hL3⟩ := w'.side hHD hID hDL' (n3.stp (L := L'))
          have s3 : Step I1 H1 L0 I3 H2 L' := s'.trans n3.stp
          refine hg d γi γ1 g1 x _ I3 H2 L' w3 hv _ fun σ2 L4 w4 s4 a4 => ?_
          have ea : wipe σ2 vs = wipe σ vs := (wipe_agr a4).trans (wipe_idem vs σ)
          refine ⟨ea, ?_⟩
          obtain ⟨hD4, hI4, hL4⟩ := w3.side hD3 hI3 hL3 s4
          refine hc γ1 b γ2 g2 σ2 I3 H2 L4 w4 _ fun I5 H5 L5 w5 s5 => ?_
          obtain ⟨hD5, hI5, hL5⟩ := w4.side hD4 hI4 hL4 s5
          have s35 := (s3.trans s4).trans s5
          cases b with
          | true =>
            obtain ⟨⟨t6, γ3⟩, g3, hrest⟩ := Option.bind_eq_some_iff.mp (show (f γ2).bind (fun q => q.1.toD.bind fun y => (lcE vs fg c f (ds.drop (i + 1)) (unset vs q.2)).map fun r => (y :: r.1, r.2)) = some (rest, γe) from hrest)
            obtain ⟨y1, g4, hrest⟩ := Option.bind_eq_some_iff.mp hrest
            cases g5 : lcE vs fg c f (ds.drop (i + 1)) (unset vs γ3) with
            | none => simp [g5] at hrest
            | some r =>
              obtain ⟨rs, γr⟩ := r
              simp [g5] at hrest
              obtain ⟨rfl, rfl⟩ := hrest
              show te σ2 H5 _
              refine hf γ2 t6 γ3 g3 σ2 I5 H5 L5 w5 _ fun u I6 H6 L6 w6 s6 => ?_
              obtain ⟨hD6, hI6, hL6⟩ := w5.side hD5 hI5 hL5 s6
              obtain ⟨I7, L7, w7, s7, hu⟩ := w6.frz g4
              obtain ⟨hD7, hI7, hL7⟩ := w6.side hD6 hI6 hL6 s7
              obtain ⟨L8, w8, s8⟩ := w7.wipeU (vs := vs)
              obtain ⟨hD8, hI8, hL8⟩ := w7.side hD7 hI7 hL7 s8
              rw [ea] at w8
              have sAll := (((s35.trans s6).trans s7).trans s8)
              refine ⟨acc, hD6, by rw [hA.length]; omega, unset vs γ3, I7, L8, acc ++ [u], ys ++ [y1], rs, w8.poke hI8 hL8, ⟨sAll.i, fun a o h hl => ?_, sAll.l, sAll.n⟩, hI8, hL8, upd_same, ?_, by simp; omega, g5, by rw [hzs]; simp⟩
              · rw [upd_ne (ne_of_none h hD)]
                exact sAll.keep a o h hl
              · exact IsA.append (hA.mono (((n3.i.trans s4.i).trans s5.i).trans (s6.i.trans s7.i))) (.cons hu .nil)
          | false =>
            show ∃ γi I' L' acc ys rest, _
            obtain ⟨L8, w8, s8⟩ := w5.wipeU (vs := vs)
            obtain ⟨hD8, hI8, hL8⟩ := w5.side hD5 hI5 hL5 s8
            rw [ea] at w8
            exact ⟨unset vs γ2, I5, L8, acc, ys, rest, w8, s35.trans s8, hI8, hL8, hD8, hA.mono ((n3.i.trans s4.i).trans s5.i), by omega, by simpa using hrest, hzs⟩
        · obtain ⟨γi, I', L', acc, ys, rest, w', s', hID, hDL', hHD, hA, _, hrest, hzs⟩ := q'
          rw [List.drop_length] at hrest
          cases hrest
          rw [List.append_nil] at hzs
          subst hzs
          have w2 : WS K γe σ I' H' L' := ⟨w'.env.unwipe hem2, w'.nd, w'.fr, w'.sub⟩
          refine q (.ref Dl) I' H' (Dl :: L') ⟨.cons (L1 := [Dl]) (.lst hHD hA) w2.env, List.nodup_cons.mpr ⟨hDL', w2.nd⟩, fun b hb => ?_, w2.sub⟩ (s0.trans ⟨s'.i, s'.keep, fun b hb => ?_, s'.n⟩)
          · rcases List.mem_cons.mp hb with rfl | hb
            · exact hID
            · exact w2.fr b hb
          · rcases List.mem_cons.mp hb with rfl | hb
            · exact .inr hD
            · exact s'.l b hb
      · cases e
    · cases e
  · cases e
/-! ### places -/
theorem At.det : ∀ {p : Pth} {t : T} {a v w : V}, At H a t p v → At H a t p w → v = w
  | [], _, _, _, _, h, h' => by cases h; cases h'; rfl
  | i :: p, _, _, _, _, h, h' => by
    cases h with
    | dic h1 h2 h3 h4 =>
      cases h' with
      | dic g1 g2 g3 g4 =>
        rw [h1] at g1
        cases g1
        rw [h2] at g2
        cases g2
        rw [h3] at g3
        cases g3
        exact At.det h4 g4
    | obj h1 h2 h3 h4 =>
      cases h' with
      | obj g1 g2 g3 g4 =>
        rw [h1] at g1
        cases g1
        rw [h2] at g2
        cases g2
        rw [h3] at g3
        cases g3
        exact At.det h4 g4
/-- the tree at a place whose value is v -/
theorem WS.placeV {i : Nat} {p : Pth} {u t : T} {v0 : V} (w : WS K γ σ I H L) (h : gAt γ i p = some u) (hu : u ≠ .em) (h1 : σ[i]? = some (some v0)) (h2 : γ[i]? = some t) (h3 : At H v0 t p v) : ∃ Li, Ow K I H v u Li ∧ Li.Nodup ∧ (∀ a ∈ Li, I a = none) ∧
    ∀ (I' H' : Hp) (u' : T) (Li' : List Addr), Step I H Li I' H' Li' → Li'.Nodup → (∀ a ∈ Li', I' a = none) → Ex I' H' → Ow K I' H' v u' Li' → ∃ L', WS K (gPut γ i p u') σ I' H' L' ∧ Step I H L I' H' L' := by
  obtain ⟨v0', v', t', g1, g2, g3, r⟩ := w.place h hu
  rw [h1] at g1
  cases g1
  rw [h2] at g2
  cases g2
  cases At.det h3 g3
  exact r
def lVar (i : Nat) : List T → Option (Nat × Pth) := fun γ => match γ[i]? with
  | some .em => none
  | some _ => some (i, [])
  | none => none
theorem lo_var (i : Nat) : Lo K (tVar i) (lVar i) := fun γ j p e σ I H L w Q k => by
  unfold lVar at e
  split at e
  · cases e
  · rename_i t ne h
    cases e
    obtain ⟨v, h1, _⟩ := w.env.get h (fun z => ne z)
    exact ⟨v, h1, k v v t h1 h .nil⟩
  · cases e
/-- pure steps leave places -/
theorem At.keep {H' : Hp} (e : Ex H H') : ∀ {p : Pth} {t : T} {a v : V}, At H a t p v → At H' a t p v
  | _, _, _, _, .nil => .nil
  | _, _, _, _, .dic h1 h2 h3 h4 => .dic (e _ _ h1) h2 h3 (At.keep e h4)
  | _, _, _, _, .obj h1 h2 h3 h4 => .obj (e _ _ h1) h2 h3 (At.keep e h4)
/-- what is at a place, read at the top -/
def cPl (l : List T → Option (Nat × Pth)) : List T → Option D := fun γ => (l γ).bind fun p => (gAt γ p.1 p.2).bind T.top
theorem cu_pl {l : List T → Option (Nat × Pth)} (hl : Lo K te l) : Cu K te (cPl l) := fun γ x e σ I H L w Q k => by
  unfold cPl at e
  obtain ⟨⟨i, p⟩, e1, e⟩ := Option.bind_eq_some_iff.mp e
  obtain ⟨u, e2, e3⟩ := Option.bind_eq_some_iff.mp e
  have hu : u ≠ .em := fun z => by subst z; simp [T.top] at e3
  refine hl γ i p e1 σ I H L w Q fun v v0 t h1 h2 h3 => ?_
  obtain ⟨Li, h4, _⟩ := w.placeV e2 hu h1 h2 h3
  exact k v I H (New.refl I H) w.sub (h4.top e3)
/-! lists at places -/
/-- l.append(e), e pure -/
def sApp (l : List T → Option (Nat × Pth)) (f : List T → Option D) : List T → Option O := fun γ => (l γ).bind fun p => (f γ).bind fun x => (gAt γ p.1 p.2).bind fun u => match u with
  | .lst ds => if ds.length < sizeLine then some (.nx (gPut γ p.1 p.2 (.lst (ds ++ [x])))) else none
  | _ => none
theorem WS.wrL {i : Nat} {p : Pth} {t : T} {v0 : V} {ds ds' : List D} {xs' : List V} (w : WS K γ σ I H L) (h : gAt γ i p = some (.lst ds)) (h1 : σ[i]? = some (some v0)) (h2 : γ[i]? = some t) (h3 : At H v0 t p v) : ∃ a xs, v = .ref a ∧ H a = some (.lst xs) ∧ IsA K I xs ds ∧ (IsA K I xs' ds' → ∃ L', WS K (gPut γ i p (.lst ds')) σ I (upd H a (.lst xs')) L' ∧ Step I H L I (upd H a (.lst xs')) L') := by
  obtain ⟨Li, h4, nd, fr, fin⟩ := w.placeV h (fun z => nomatch z) h1 h2 h3
  cases h4 with
  | @lst a xs _ h5 h6 =>
    refine ⟨a, xs, rfl, h5, h6, fun hx' => fin I (upd H a (.lst xs')) (.lst ds') [a] ⟨Ex.refl I, fun b o e hb => ?_, fun b hb => .inl hb, fun b o e => .inl e⟩ nd fr (fun b o e => ?_) (.lst upd_same hx')⟩
    · rw [upd_ne (by simpa using hb)]
      exact e
    · rw [upd_ne (ne_of_none e (fr a (by simp)))]
      exact w.sub b o e
theorem rs_app {l : List T → Option (Nat × Pth)} {f : List T → Option D} (hl : Lo K to l) (hf : Pu K te f) : RunS K wr W (tDrop (tBM K "list" rAppend to (tCons te tNil))) (sApp l f) := fun γ o e σ I H L w Dn q => by
  unfold sApp at e
  obtain ⟨⟨i, p⟩, e1, e⟩ := Option.bind_eq_some_iff.mp e
  obtain ⟨x, e2, e⟩ := Option.bind_eq_some_iff.mp e
  obtain ⟨u, e3, e⟩ := Option.bind_eq_some_iff.mp e
  dsimp only at e
  split at e
  · rename_i ds
    split at e
    · rename_i hz
      cases e
      refine hl γ i p e1 σ I H L w _ fun v v0 t h1 h2 h3 => ?_
      obtain ⟨a, xs, rfl, h4, h5, _⟩ := w.wrL (ds' := []) (xs' := []) e3 h1 h2 h3
      refine ⟨.inl ⟨rfl, _, sq_of h4⟩, hf γ x e2 σ I H L w _ fun y I1 H1 n1 s1 hy => ?_⟩
      have w1 := w.new n1 s1
      obtain ⟨a', xs1, ea, h6, h7, fin⟩ := w1.wrL (ds' := ds ++ [x]) (xs' := xs ++ [y]) e3 h1 h2 (h3.keep n1.h)
      cases ea
      have := n1.h _ _ h4
      rw [h6] at this
      cases this
      obtain ⟨L2, w2, s2⟩ := fin (h7.append (.cons hy .nil))
      exact ⟨a, xs, y, rfl, rfl, h6, by rw [h7.length]; exact hz, q σ I1 _ L2 w2 (n1.stp.trans s2) (.refl σ)⟩
    · cases e
  · cases e
/-- x.append(e), x a slot -/
def sAppV (i : Nat) (f : List T → Option (T × List T)) : List T → Option O := fun γ => match γ[i]? with
  | some (.lst _) => (f γ).bind fun q => q.1.toD.bind fun x => (match q.2[i]? with
    | some (.lst ds) => if ds.length < sizeLine then some (.nx (q.2.set i (.lst (ds ++ [x])))) else none
    | _ => none)
  | _ => none
theorem gAt_nil {i : Nat} {t : T} (h : γ[i]? = some t) : gAt γ i [] = some t := by unfold gAt; rw [h]; rfl
theorem gPut_nil {i : Nat} {t u : T} (h : γ[i]? = some t) : gPut γ i [] u = γ.set i u := by unfold gPut; rw [h]; rfl
theorem rs_appV {i : Nat} {f : List T → Option (T × List T)} (hf : Ef K te f) : RunS K wr W (tDrop (tBM K "list" rAppend (tVar i) (tCons te tNil))) (sAppV i f) := fun γ o e σ I H L w Dn q => by
  unfold sAppV at e
  split at e
  · rename_i ds0 h0
    obtain ⟨⟨t, γ1⟩, e1, e⟩ := Option.bind_eq_some_iff.mp e
    obtain ⟨x, e2, e⟩ := Option.bind_eq_some_iff.mp e
    dsimp only at e
    split at e
    · rename_i ds hd
      split at e
      · rename_i hz
        cases e
        obtain ⟨v, h1, Li, h2, _⟩ := w.stepSlot h0 (fun z => nomatch z)
        cases h2 with
        | @lst a xs0 _ h2 h3 =>
          refine ⟨_, h1, .inl ⟨rfl, _, sq_of h2⟩, hf γ t γ1 e1 σ I H L w _ fun y I1 H1 L1 w1 s1 => ?_⟩
          obtain ⟨I2, L2, w2, s2, hy⟩ := w1.frz e2
          obtain ⟨a', xs, ea, h6, h7, _⟩ := w2.wrL (ds' := []) (xs' := []) (gAt_nil hd) h1 hd .nil
          cases ea
          obtain ⟨_, xs', ea, h6', h7', fin⟩ := w2.wrL (ds' := ds ++ [x]) (xs' := xs ++ [y]) (gAt_nil hd) h1 hd .nil
          cases ea
          rw [h6] at h6'
          cases h6'
          obtain ⟨L3, w3, s3⟩ := fin (h7.append (.cons hy .nil))
          rw [gPut_nil hd] at w3
          exact ⟨a, xs, y, rfl, rfl, h6, by rw [h7.length]; exact hz, q σ I2 _ L3 w3 ((s1.trans s2).trans s3) (.refl σ)⟩
      · cases e
    · cases e
  · cases e
/-- xs[j] = e -/
def sSetI (i : Nat) (f : List T → Option (T × List T)) (g : List T → Option D) : List T → Option O := fun γ => (f γ).bind fun q => q.1.toD.bind fun x => match q.2[i]? with
  | some (.lst ds) => (g q.2).bind fun k => (match k with
    | .int k => (ixN ds.length k).map fun j => .nx (q.2.set i (.lst (ds.set j x)))
    | _ => none)
  | _ => none
theorem rs_setI {i : Nat} {f : List T → Option (T × List T)} {g : List T → Option D} (hf : Ef K te f) (hg : Pu K tx g) : RunS K wr W (tAsg te (gSub (tVar i) tx rSetL)) (sSetI i f g) := fun γ o e σ I H L w Dn q => by
  unfold sSetI at e
  obtain ⟨⟨t, γ1⟩, e1, e⟩ := Option.bind_eq_some_iff.mp e
  obtain ⟨x, e2, e⟩ := Option.bind_eq_some_iff.mp e
  dsimp only at e
  split at e
  · rename_i ds hd
    obtain ⟨k, e3, e⟩ := Option.bind_eq_some_iff.mp e
    cases k <;> simp at e
    rename_i k
    obtain ⟨j, e4, rfl⟩ := e
    refine hf γ t γ1 e1 σ I H L w _ fun y I1 H1 L1 w1 s1 => ?_
    obtain ⟨I2, L2, w2, s2, hy⟩ := w1.frz e2
    obtain ⟨v, h1, _⟩ := w2.stepSlot hd (fun z => nomatch z)
    refine ⟨v, h1, hg γ1 _ e3 σ I2 H1 L2 w2 _ fun kv I3 H3 n3 s3 hk => ?_⟩
    cases hk
    have w3 := w2.new n3 s3
    obtain ⟨a, xs, rfl, h6, h7, _⟩ := w3.wrL (ds' := []) (xs' := []) (gAt_nil hd) h1 hd .nil
    obtain ⟨_, xs', ea, h6', h7', fin⟩ := w3.wrL (ds' := ds.set j x) (xs' := xs.set j y) (gAt_nil hd) h1 hd .nil
    cases ea
    rw [h6] at h6'
    cases h6'
    obtain ⟨L3, w4, s4⟩ := fin (h7.set j (hy.mono n3.i))
    rw [gPut_nil hd] at w4
    exact ⟨a, xs, k, j, rfl, rfl, h6, by rw [h7.length]; exact e4, q σ I3 _ L3 w4 ((s1.trans s2).trans (n3.stp.trans s4)) (.refl σ)⟩
  · cases e
/-- xs.pop(j) -/
def ePop (i : Nat) (f : List T → Option (T × List T)) : List T → Option (T × List T) := fun γ => match γ[i]? with
  | some (.lst _) => (f γ).bind fun q => q.1.toD.bind fun x => match x, q.2[i]? with
    | .int j, some (.lst ds) => if -(2 ^ 63) ≤ j ∧ j < 2 ^ 63 then (seqIndex? j ds.length).bind fun k => (ds[k]?).map fun y => (.d y, q.2.set i (.lst (ds.eraseIdx k))) else none
    | _, _ => none
  | _ => none
theorem ef_pop {i : Nat} {f : List T → Option (T × List T)} (hf : Ef K te f) : Ef K (tBM K "list" rPopAt (tVar i) (tCons te tNil)) (ePop i f) := fun γ t γ' e σ I H L w Q q => by
  unfold ePop at e
  split at e
  · rename_i ds0 h0
    obtain ⟨⟨t1, γ1⟩, e1, e⟩ := Option.bind_eq_some_iff.mp e
    obtain ⟨x, e2, e⟩ := Option.bind_eq_some_iff.mp e
    dsimp only at e
    split at e
    · rename_i j ds hd
      split at e
      · rename_i hz
        obtain ⟨k, e3, e⟩ := Option.bind_eq_some_iff.mp e
        cases e4 : ds[k]? with
        | none => simp [e4] at e
        | some y =>
          simp [e4] at e
          obtain ⟨rfl, rfl⟩ := e
          obtain ⟨v, h1, Li, h2, _⟩ := w.stepSlot h0 (fun z => nomatch z)
          cases h2 with
          | @lst a xs0 _ h2 h3 =>
            refine ⟨_, h1, .inl ⟨rfl, _, sq_of h2⟩, hf γ t1 γ1 e1 σ I H L w _ fun u I1 H1 L1 w1 s1 => ?_⟩
            obtain ⟨I2, L2, w2, s2, hu⟩ := w1.frz e2
            cases hu
            obtain ⟨a', xs, ea, h6, h7, _⟩ := w2.wrL (ds' := []) (xs' := []) (gAt_nil hd) h1 hd .nil
            cases ea
            obtain ⟨_, xs', ea, h6', h7', fin⟩ := w2.wrL (ds' := ds.eraseIdx k) (xs' := xs.eraseIdx k) (gAt_nil hd) h1 hd .nil
            cases ea
            rw [h6] at h6'
            cases h6'
            obtain ⟨yv, hy, hv⟩ := h7.getD e4
            obtain ⟨L3, w3, s3⟩ := fin (h7.erase k)
            rw [gPut_nil hd] at w3
            exact ⟨a, xs, j, k, yv, rfl, rfl, h6, hz.1, hz.2, by rw [h7.length]; exact e3, hy, q yv I2 _ L3 (w3.front hv) ((s1.trans s2).trans s3)⟩
      · cases e
    · cases e
  · cases e
end
end FD

/-! FS8: truth, join, isinstance of a type. -/
namespace FD
open PySem PySem.Spec PyProof.Rows L2
section
variable {K : PySem.W.Frag} {wr : List Nat} {W : WX'} {ta tb tc te to td ty tx : TE} {tt tu : TT} {ts tv : TS} {I I' H H' : Hp} {γ γ' : List T} {σ : Sg} {L : List Addr} {v : V} {x : D}
def oIsi2 (x y : D) : Option D := match y with
  | .raw (.ty T) => oIsi T x
  | _ => none
theorem isi2_t : ∀ x y z, oIsi2 x y = some z → OpT K (fun v w => rIsi K [v, w]) x y z := fun x y z e => isi_t "" x y z e
/-- a.join(xs) -/
def oJoin (x y : D) : Option D := match x with
  | .str a => (items y).bind fun ds => (allS ds).bind fun ys => if (ys.map (·.length)).sum + ys.length * a.length ≤ 16777216 then some (.str (Str.join a ys)) else none
  | _ => none
theorem join_t {y z : D} (e : oJoin x y = some z) : ∃ a ys ds, x = .str a ∧ items y = some ds ∧ ds = ys.map .str ∧ (ys.map (·.length)).sum + ys.length * a.length ≤ 16777216 ∧ z = .str (Str.join a ys) := by
  unfold oJoin at e
  split at e
  · obtain ⟨ds, e1, e⟩ := Option.bind_eq_some_iff.mp e
    obtain ⟨ys, e2, e⟩ := Option.bind_eq_some_iff.mp e
    split at e
    · rename_i h; cases e; exact ⟨_, _, _, rfl, e1, allS_eq e2, h, rfl⟩
    · cases e
  · cases e
theorem join_run {a : Str} {ys : List Str} {y : D} {ds : List D} {w : V} {Q : VK} (s : Ex I H) (hw : Tp K I H w y) (h1 : items y = some ds) (h2 : ds = ys.map .str) (hz : (ys.map (·.length)).sum + ys.length * a.length ≤ 16777216) (q : Q (.str (Str.join a ys)) H) : rJoin K (.str a) [w] H Q := by
  obtain ⟨p, xs, rfl, h3, h4⟩ := hw.seq s h1
  rw [h2] at h4
  rw [isA_strs.mp h4] at h3
  exact ⟨a, p, ys, rfl, rfl, h3, hz, by rw [TL.join_eq]; exact q⟩
theorem pu_join {f g : List T → Option D} (hf : Pu K to f) (hg : Cu K te g) : Pu K (tM1 (rJoin K) to te) (pOp oJoin f g) := fun γ z e σ I H L w Q k => by
  unfold pOp at e
  obtain ⟨x, e1, e⟩ := Option.bind_eq_some_iff.mp e
  obtain ⟨y, e2, e3⟩ := Option.bind_eq_some_iff.mp e
  obtain ⟨a, ys, ds, rfl, h1, h2, hz, rfl⟩ := join_t e3
  refine hf γ _ e1 σ I H L w _ fun v I1 H1 n1 s1 hv => ?_
  cases hv
  refine ⟨⟨a, rfl⟩, hg γ y e2 σ I1 H1 L (w.new n1 s1) _ fun u I2 H2 n2 s2 hu => ?_⟩
  exact join_run s2 hu h1 h2 hz (k _ I2 H2 (n1.trans n2) s2 (.str _))
def eJoin (f : List T → Option D) (g : List T → Option (T × List T)) : List T → Option (T × List T) := fun γ => (f γ).bind fun x => (g γ).bind fun q => q.1.toD.bind fun y => (oJoin x y).map fun z => (.d z, q.2)
theorem ef_join {f : List T → Option D} {g : List T → Option (T × List T)} (hf : Pu K to f) (hg : Ef K te g) : Ef K (tM1 (rJoin K) to te) (eJoin f g) := fun γ t γ' e σ I H L w Q k => by
  unfold eJoin at e
  obtain ⟨x, e1, e⟩ := Option.bind_eq_some_iff.mp e
  obtain ⟨⟨u, γ1⟩, e2, e⟩ := Option.bind_eq_some_iff.mp e
  obtain ⟨y, e3, e⟩ := Option.bind_eq_some_iff.mp e
  cases e4 : oJoin x y with
  | none => simp [e4] at e
  | some z =>
    simp [e4] at e
    obtain ⟨rfl, rfl⟩ := e
    obtain ⟨a, ys, ds, rfl, h1, h2, hz, rfl⟩ := join_t e4
    refine hf γ _ e1 σ I H L w _ fun v I1 H1 n1 s1 hv => ?_
    cases hv
    refine ⟨⟨a, rfl⟩, hg γ u γ1 e2 σ I1 H1 L (w.new n1 s1) _ fun v2 I2 H2 L2 w2 s2 => ?_⟩
    obtain ⟨I3, L3, w3, s3, hv2⟩ := w2.frz e3
    exact join_run w3.sub (.is hv2) h1 h2 hz (k _ I3 H2 L3 (w3.front (.str _)) (n1.stp.trans (s2.trans s3)))
end
end FD

/-! FS9: the functions unfolded by simp. -/
namespace FD
open PySem PySem.Spec PyProof.Rows L2
@[simp] theorem pVar_app (i : Nat) (γ : List T) : pVar i γ = match γ[i]? with
  | some (.d x) => some x
  | _ => none := rfl
@[simp] theorem cVar_app (i : Nat) (γ : List T) : cVar i γ = (γ[i]?).bind T.top := rfl
@[simp] theorem pC_app (x : D) (γ : List T) : pC x γ = some x := rfl
@[simp] theorem pOp_app (o : D → D → Option D) (f g : List T → Option D) (γ : List T) : pOp o f g γ = (f γ).bind fun x => (g γ).bind fun y => o x y := rfl
@[simp] theorem pUn_app (o : D → Option D) (f : List T → Option D) (γ : List T) : pUn o f γ = (f γ).bind o := rfl
@[simp] theorem pNil_app  (γ : List T) : pNil  γ = some [] := rfl
@[simp] theorem pCons_app (f : List T → Option D) (g : List T → Option (List D)) (γ : List T) : pCons f g γ = (f γ).bind fun x => (g γ).map fun xs => x :: xs := rfl
@[simp] theorem pCB_app (o : List D → Option D) (g : List T → Option (List D)) (γ : List T) : pCB o g γ = (g γ).bind o := rfl
@[simp] theorem pTup_app (g : List T → Option (List D)) (γ : List T) : pTup g γ = (g γ).bind fun xs => if xs.length ≤ sizeLine then some (.tup xs) else none := rfl
@[simp] theorem pLst_app (g : List T → Option (List D)) (γ : List T) : pLst g γ = (g γ).bind fun xs => if xs.length ≤ sizeLine then some (.lst xs) else none := rfl
@[simp] theorem pTest_app (f : List T → Option D) (γ : List T) : pTest f γ = (f γ).bind fun x => match x with
  | .bl b => some b
  | _ => none := rfl
@[simp] theorem bNot_app (p : List T → Option Bool) (γ : List T) : bNot p γ = (p γ).map (!·) := rfl
@[simp] theorem bAnd_app (p q : List T → Option Bool) (γ : List T) : bAnd p q γ = (p γ).bind fun a => if a = true then q γ else some false := rfl
@[simp] theorem bOr_app (p q : List T → Option Bool) (γ : List T) : bOr p q γ = (p γ).bind fun a => if a = true then some true else q γ := rfl
@[simp] theorem bYes_app  (γ : List T) : bYes  γ = some true := rfl
@[simp] theorem bTru_app (f : List T → Option D) (γ : List T) : bTru f γ = (f γ).bind fun x => match x with
  | .bl b => some b
  | .int i => some (decide (i ≠ 0))
  | .str s => some (decide (s.length ≠ 0))
  | .lst ds => some (decide (ds.length ≠ 0))
  | .tup ds => some (decide (ds.length ≠ 0))
  | .non => some false
  | _ => none := rfl
@[simp] theorem pAnd_app (f g : List T → Option D) (γ : List T) : pAnd f g γ = (f γ).bind fun x => match x with
  | .bl true => (g γ).bind fun y => match y with
    | .bl b => some (.bl b)
    | _ => none
  | .bl false => some (.bl false)
  | _ => none := rfl
@[simp] theorem pOr_app (f g : List T → Option D) (γ : List T) : pOr f g γ = (f γ).bind fun x => match x with
  | .bl false => (g γ).bind fun y => match y with
    | .bl b => some (.bl b)
    | _ => none
  | .bl true => some (.bl true)
  | _ => none := rfl
@[simp] theorem pNot_app (f : List T → Option D) (γ : List T) : pNot f γ = (f γ).bind fun x => match x with
  | .bl b => some (.bl (!b))
  | _ => none := rfl
@[simp] theorem pIf_app (p : List T → Option Bool) (f g : List T → Option D) (γ : List T) : pIf p f g γ = (p γ).bind fun a => if a = true then f γ else g γ := rfl
@[simp] theorem pChain_app (o o' : D → D → Option D) (f g h : List T → Option D) (γ : List T) : pChain o o' f g h γ = (f γ).bind fun x => (g γ).bind fun y => (o x y).bind fun z => match z with
  | .bl true => (h γ).bind fun w => (o' y w).bind fun r => match r with
    | .bl b => some (.bl b)
    | _ => none
  | .bl false => some (.bl false)
  | _ => none := rfl
@[simp] theorem oNone_app  (γ : List T) : oNone  γ = some none := rfl
@[simp] theorem oSome_app (f : List T → Option D) (γ : List T) : oSome f γ = (f γ).bind fun x => match x with
  | .int i => some (some i)
  | _ => none := rfl
@[simp] theorem pSl_app (o : D → Option Int → Option Int → Option D) (f : List T → Option D) (a b : List T → Option (Option Int)) (γ : List T) : pSl o f a b γ = (f γ).bind fun x => (a γ).bind fun l => (b γ).bind fun h => o x l h := rfl
@[simp] theorem eP_app (f : List T → Option D) (γ : List T) : eP f γ = (f γ).map fun x => (.d x, γ) := rfl
@[simp] theorem eT_app (f : List T → Option Bool) (γ : List T) : eT f γ = (f γ).map fun b => (b, γ) := rfl
@[simp] theorem aNil_app  (γ : List T) : aNil  γ = some ([], γ) := rfl
@[simp] theorem aCons_app (f : List T → Option (T × List T)) (g : List T → Option (List T × List T)) (γ : List T) : aCons f g γ = (f γ).bind fun p => (g p.2).map fun q => (p.1 :: q.1, q.2) := rfl
@[simp] theorem aBor_app (i : Nat) (g : List T → Option (List T × List T)) (γ : List T) : aBor i g γ = match γ[i]? with
  | some .em => none
  | some _ => (g γ).map fun q => (.em :: q.1, q.2)
  | none => none := rfl
@[simp] theorem eOp_app (bs : List (Option Nat)) (o : D → D → Option D) (g : List T → Option (List T × List T)) (γ : List T) : eOp bs o g γ = (g γ).bind fun q => (resA q.2 bs q.1).bind fun xs => match xs with
  | [x, y] => (o x y).map fun z => (.d z, q.2)
  | _ => none := rfl
@[simp] theorem eUn_app (bs : List (Option Nat)) (o : D → Option D) (g : List T → Option (List T × List T)) (γ : List T) : eUn bs o g γ = (g γ).bind fun q => (resA q.2 bs q.1).bind fun xs => match xs with
  | [x] => (o x).map fun z => (.d z, q.2)
  | _ => none := rfl
@[simp] theorem eCB_app (bs : List (Option Nat)) (o : List D → Option D) (g : List T → Option (List T × List T)) (γ : List T) : eCB bs o g γ = (g γ).bind fun q => (resA q.2 bs q.1).bind fun xs => (o xs).map fun z => (.d z, q.2) := rfl
@[simp] theorem eTup_app (bs : List (Option Nat)) (g : List T → Option (List T × List T)) (γ : List T) : eTup bs g γ = (g γ).bind fun q => (resI bs q.1).bind fun xs => if xs.length ≤ sizeLine then some (.d (.tup xs), q.2) else none := rfl
@[simp] theorem eLst_app (bs : List (Option Nat)) (g : List T → Option (List T × List T)) (γ : List T) : eLst bs g γ = (g γ).bind fun q => (resI bs q.1).bind fun xs => if xs.length ≤ sizeLine then some (.lst xs, q.2) else none := rfl
@[simp] theorem eList_app (f : List T → Option D) (γ : List T) : eList f γ = (f γ).bind fun x => (items x).map fun xs => (.lst xs, γ) := rfl
@[simp] theorem eDic_app  (γ : List T) : eDic  γ = some (.dic [] [], γ) := rfl
@[simp] theorem eFrz_app (i : Nat) (γ : List T) : eFrz i γ = (γ[i]?).bind fun t => t.toD.map fun x => (.d x, γ.set i (.d x)) := rfl
@[simp] theorem eTest_app (f : List T → Option (T × List T)) (γ : List T) : eTest f γ = (f γ).bind fun q => match q.1 with
  | .d (.bl b) => some (b, q.2)
  | _ => none := rfl
@[simp] theorem eNot_app (p : List T → Option (Bool × List T)) (γ : List T) : eNot p γ = (p γ).map fun q => (!q.1, q.2) := rfl
@[simp] theorem eAnd_app (p q : List T → Option (Bool × List T)) (γ : List T) : eAnd p q γ = (p γ).bind fun a => if a.1 = true then q a.2 else some (false, a.2) := rfl
@[simp] theorem eOr_app (p q : List T → Option (Bool × List T)) (γ : List T) : eOr p q γ = (p γ).bind fun a => if a.1 = true then some (true, a.2) else q a.2 := rfl
@[simp] theorem eAndV_app (f g : List T → Option (T × List T)) (γ : List T) : eAndV f g γ = (f γ).bind fun q => match q.1 with
  | .d (.bl true) => (g q.2).bind fun r => match r.1 with
    | .d (.bl b) => some (.d (.bl b), r.2)
    | _ => none
  | .d (.bl false) => some (.d (.bl false), q.2)
  | _ => none := rfl
@[simp] theorem eOrV_app (f g : List T → Option (T × List T)) (γ : List T) : eOrV f g γ = (f γ).bind fun q => match q.1 with
  | .d (.bl false) => (g q.2).bind fun r => match r.1 with
    | .d (.bl b) => some (.d (.bl b), r.2)
    | _ => none
  | .d (.bl true) => some (.d (.bl true), q.2)
  | _ => none := rfl
@[simp] theorem eNotV_app (f : List T → Option (T × List T)) (γ : List T) : eNotV f γ = (f γ).bind fun q => match q.1 with
  | .d (.bl b) => some (.d (.bl (!b)), q.2)
  | _ => none := rfl
@[simp] theorem eIf_app (p : List T → Option (Bool × List T)) (f g : List T → Option (T × List T)) (γ : List T) : eIf p f g γ = (p γ).bind fun a => if a.1 = true then f a.2 else g a.2 := rfl
@[simp] theorem eCall_app (g : FN) (bs : List (Option Nat)) (a : List T → Option (List T × List T)) (γ : List T) : eCall g bs a γ = (a γ).bind fun q => callF g bs q.1 q.2 := rfl
@[simp] theorem pCall_app (g : FN) (a : List T → Option (List D)) (γ : List T) : pCall g a γ = (a γ).bind fun xs => match g (xs.map .d) with
  | some (.ret r _) => r.toD
  | _ => none := rfl
@[simp] theorem gN_app (i : Nat) (x : D) (γ : List T) : gN i x γ = some (γ.set i (.d x)) := rfl
@[simp] theorem gNl_app  (xs : List D) (γ : List T) : gNl  xs γ = match xs with
  | [] => some γ
  | _ => none := rfl
@[simp] theorem gCn_app (f : D → List T → Option (List T)) (g : List D → List T → Option (List T)) (xs : List D) (γ : List T) : gCn f g xs γ = match xs with
  | x :: xs => (f x γ).bind fun γ1 => g xs γ1
  | [] => none := rfl
@[simp] theorem gTp_app (n : Nat) (g : List D → List T → Option (List T)) (x : D) (γ : List T) : gTp n g x γ = match x with
  | .tup ds => if ds.length = n then g ds γ else none
  | _ => none := rfl
@[simp] theorem iAnyF_app (f : List T → Option D) (γ : List T) : iAnyF f γ = (f γ).bind walkD := rfl
@[simp] theorem iR1_app (f : List T → Option D) (γ : List T) : iR1 f γ = (f γ).bind fun x => match x with
  | .int n => if -(2 ^ 62) ≤ n ∧ n < 2 ^ 62 then some (intsD 0 n.toNat) else none
  | _ => none := rfl
@[simp] theorem iR2_app (f g : List T → Option D) (γ : List T) : iR2 f g γ = (f γ).bind fun x => (g γ).bind fun y => match x, y with
  | .int lo, .int n => if -(2 ^ 62) ≤ lo ∧ lo < 2 ^ 62 ∧ -(2 ^ 62) ≤ n ∧ n < 2 ^ 62 then some (intsD lo (n - lo).toNat) else none
  | _, _ => none := rfl
@[simp] theorem iEn_app (f : List T → Option D) (γ : List T) : iEn f γ = (f γ).bind fun x => match x with
  | .lst ds => some (enumD ds)
  | _ => none := rfl
@[simp] theorem iZp_app (f g : List T → Option D) (γ : List T) : iZp f g γ = (f γ).bind fun x => (g γ).bind fun y => match x, y with
  | .lst xs, .lst ys => some (zipD xs ys)
  | _, _ => none := rfl
@[simp] theorem pLc_app (vs : List Nat) (it : List T → Option (List D)) (g : D → List T → Option (List T)) (c : List T → Option Bool) (f : List T → Option D) (γ : List T) : pLc vs it g c f γ =
  if vs.all (isEm γ) = true then (it γ).bind fun ds => if ds.length < sizeLine then (lcP g c f γ ds).map .lst else none else none := rfl
@[simp] theorem sNext_app  (γ : List T) : sNext  γ = some (.nx γ) := rfl
@[simp] theorem sSeq_app (f g : List T → Option O) (γ : List T) : sSeq f g γ = (f γ).bind fun o => match o with
  | .nx γ1 => g γ1
  | o => some o := rfl
@[simp] theorem sAsg_app (i : Nat) (f : List T → Option (T × List T)) (γ : List T) : sAsg i f γ = (f γ).map fun q => .nx (q.2.set i q.1) := rfl
@[simp] theorem eD_app (f : List T → Option (T × List T)) (γ : List T) : eD f γ = (f γ).bind fun q => q.1.toD.map fun x => (.d x, q.2) := rfl
@[simp] theorem sAsgD_app (i : Nat) (f : List T → Option (T × List T)) (γ : List T) : sAsgD i f γ = (f γ).bind fun q => q.1.toD.map fun x => .nx (q.2.set i (.d x)) := rfl
@[simp] theorem sAsgG_app (g : D → List T → Option (List T)) (f : List T → Option (T × List T)) (γ : List T) : sAsgG g f γ = (f γ).bind fun q => q.1.toD.bind fun x => (g x q.2).map .nx := rfl
@[simp] theorem sPar_app (js : List Nat) (g : List T → Option (List T × List T)) (γ : List T) : sPar js g γ = (g γ).bind fun q => if q.1.length = js.length then some (.nx ((js.zip q.1).foldl (fun γ p => γ.set p.1 p.2) q.2)) else none := rfl
@[simp] theorem sRet_app (f : List T → Option (T × List T)) (γ : List T) : sRet f γ = (f γ).map fun q => .rt q.1 q.2 := rfl
@[simp] theorem sRetN_app  (γ : List T) : sRetN  γ = some (.rt (.d .non) γ) := rfl
@[simp] theorem eMov_app (i : Nat) (γ : List T) : eMov i γ = match γ[i]? with
  | some (.d x) => some (.d x, γ)
  | some .em => none
  | some t => some (t, γ.set i .em)
  | none => none := rfl
@[simp] theorem sExpr_app (f : List T → Option (T × List T)) (γ : List T) : sExpr f γ = (f γ).map fun q => .nx q.2 := rfl
@[simp] theorem sBrk_app  (γ : List T) : sBrk  γ = some (.bk γ) := rfl
@[simp] theorem sCont_app  (γ : List T) : sCont  γ = some (.ct γ) := rfl
@[simp] theorem sIf_app (p : List T → Option (Bool × List T)) (f g : List T → Option O) (γ : List T) : sIf p f g γ = (p γ).bind fun q => if q.1 = true then f q.2 else g q.2 := rfl
@[simp] theorem sNo_app  (γ : List T) : sNo  γ = none := rfl
@[simp] theorem eNo_app  (γ : List T) : eNo  γ = none := rfl
@[simp] theorem iP_app (f : List T → Option (List D)) (γ : List T) : iP f γ = (f γ).map fun ds => (ds, γ) := rfl
@[simp] theorem iR1E_app (f : List T → Option (T × List T)) (γ : List T) : iR1E f γ = (f γ).bind fun q => match q.1 with
  | .d (.int n) => if -(2 ^ 62) ≤ n ∧ n < 2 ^ 62 then some (intsD 0 n.toNat, q.2) else none
  | _ => none := rfl
@[simp] theorem iAnyE_app (f : List T → Option (T × List T)) (γ : List T) : iAnyE f γ = (f γ).bind fun q => q.1.toD.bind fun y => (walkD y).map fun ds => (ds, q.2) := rfl
@[simp] theorem sFor_app (it : List T → Option (List D × List T)) (g : D → List T → Option (List T)) (b : List T → Option O) (γ : List T) : sFor it g b γ = (it γ).bind fun q => forS g b q.1 q.2 := rfl
@[simp] theorem fnF_app (np n : Nat) (wr : List Nat) (b : List T → Option O) (pre : List T) : fnF np n wr b pre = if pre.length = np ∧ okW wr pre = true then (b (pre ++ List.replicate (n - pre.length) .em)).bind fun o => match o with
  | .rt r γ => some (.ret r (postP pre γ))
  | .nx γ => some (.ret (.d .non) (postP pre γ))
  | .xc C fs γ => some (.exc C fs (postP pre γ))
  | _ => none else none := rfl
@[simp] theorem eLcO_app (vs : List Nat) (it : List T → Option (List D)) (g : D → List T → Option (List T)) (c : List T → Option Bool) (f : List T → Option D) (γ : List T) : eLcO vs it g c f γ =
  if vs.all (isEm γ) = true then (it γ).bind fun ds => if ds.length < sizeLine then (lcP g c f γ ds).map fun zs => (.lst zs, γ) else none else none := rfl
@[simp] theorem eLc_app (vs : List Nat) (it : List T → Option (List D × List T)) (g : D → List T → Option (List T)) (c : List T → Option (Bool × List T)) (f : List T → Option (T × List T)) (γ : List T) : eLc vs it g c f γ =
  if vs.all (isEm γ) = true then (it γ).bind fun p => if vs.all (isEm p.2) = true ∧ p.1.length < sizeLine then (lcE vs g c f p.1 p.2).bind fun r => if vs.all (isEm r.2) = true then some (.lst r.1, r.2) else none else none else none := rfl
@[simp] theorem lVar_app (i : Nat) (γ : List T) : lVar i γ = match γ[i]? with
  | some .em => none
  | some _ => some (i, [])
  | none => none := rfl
@[simp] theorem cPl_app (l : List T → Option (Nat × Pth)) (γ : List T) : cPl l γ = (l γ).bind fun p => (gAt γ p.1 p.2).bind T.top := rfl
@[simp] theorem sApp_app (l : List T → Option (Nat × Pth)) (f : List T → Option D) (γ : List T) : sApp l f γ = (l γ).bind fun p => (f γ).bind fun x => (gAt γ p.1 p.2).bind fun u => match u with
  | .lst ds => if ds.length < sizeLine then some (.nx (gPut γ p.1 p.2 (.lst (ds ++ [x])))) else none
  | _ => none := rfl
@[simp] theorem sAppV_app (i : Nat) (f : List T → Option (T × List T)) (γ : List T) : sAppV i f γ = match γ[i]? with
  | some (.lst _) => (f γ).bind fun q => q.1.toD.bind fun x => (match q.2[i]? with
    | some (.lst ds) => if ds.length < sizeLine then some (.nx (q.2.set i (.lst (ds ++ [x])))) else none
    | _ => none)
  | _ => none := rfl
@[simp] theorem sSetI_app (i : Nat) (f : List T → Option (T × List T)) (g : List T → Option D) (γ : List T) : sSetI i f g γ = (f γ).bind fun q => q.1.toD.bind fun x => match q.2[i]? with
  | some (.lst ds) => (g q.2).bind fun k => (match k with
    | .int k => (ixN ds.length k).map fun j => .nx (q.2.set i (.lst (ds.set j x)))
    | _ => none)
  | _ => none := rfl
@[simp] theorem ePop_app (i : Nat) (f : List T → Option (T × List T)) (γ : List T) : ePop i f γ = match γ[i]? with
  | some (.lst _) => (f γ).bind fun q => q.1.toD.bind fun x => match x, q.2[i]? with
    | .int j, some (.lst ds) => if -(2 ^ 63) ≤ j ∧ j < 2 ^ 63 then (seqIndex? j ds.length).bind fun k => (ds[k]?).map fun y => (.d y, q.2.set i (.lst (ds.eraseIdx k))) else none
    | _, _ => none
  | _ => none := rfl
@[simp] theorem eJoin_app (f : List T → Option D) (g : List T → Option (T × List T)) (γ : List T) : eJoin f g γ = (f γ).bind fun x => (g γ).bind fun q => q.1.toD.bind fun y => (oJoin x y).map fun z => (.d z, q.2) := rfl
@[simp] theorem gNl_nil (γ : List T) : gNl [] γ = some γ := rfl
@[simp] theorem gCn_cons (f : D → List T → Option (List T)) (g : List D → List T → Option (List T)) (x : D) (xs : List D) (γ : List T) : gCn f g (x :: xs) γ = (f x γ).bind fun γ1 => g xs γ1 := rfl
@[simp] theorem gTp_tup (n : Nat) (g : List D → List T → Option (List T)) (ds : List D) (γ : List T) : gTp n g (.tup ds) γ = if ds.length = n then g ds γ else none := rfl
@[simp] theorem forS_nil (g : D → List T → Option (List T)) (b : List T → Option O) (γ : List T) : forS g b [] γ = some (.nx γ) := rfl
@[simp] theorem lcP_nil (g : D → List T → Option (List T)) (c : List T → Option Bool) (f : List T → Option D) (γ : List T) : lcP g c f γ [] = some [] := rfl
@[simp] theorem lcE_nil (vs : List Nat) (g : D → List T → Option (List T)) (c : List T → Option (Bool × List T)) (f : List T → Option (T × List T)) (γ : List T) : lcE vs g c f [] γ = some ([], γ) := rfl
@[simp] theorem top_d (x : D) : T.top (.d x) = some x := rfl
@[simp] theorem top_lst (x : List D) : T.top (.lst x) = some (.lst x) := rfl
@[simp] theorem toD_d (x : D) : T.toD (.d x) = some x := by simp [T.toD]
@[simp] theorem toD_lst (x : List D) : T.toD (.lst x) = some (.lst x) := by simp [T.toD]
@[simp] theorem toDs_nil : T.toDs [] = some [] := by simp [T.toDs]
@[simp] theorem toDs_cons (t : T) (ts : List T) : T.toDs (t :: ts) = match t.toD, T.toDs ts with
    | some x, some xs => some (x :: xs)
    | _, _ => none := by first | (rw [T.toDs]; done) | (rw [T.toDs]; cases t.toD <;> cases T.toDs ts <;> rfl)
@[simp] theorem toD_obj (C : Addr) (ns : List Str) (ts : List T) : T.toD (.obj C ns ts) = (T.toDs ts).map (.ins C ns) := by simp [T.toD]
@[simp] theorem toD_dic (ks : List Key) (ts : List T) : T.toD (.dic ks ts) = (T.toDs ts).map (.dic ks) := by simp [T.toD]
@[simp] theorem resI_nil : resI [] [] = some [] := rfl
@[simp] theorem resI_none (bs : List (Option Nat)) (t : T) (ts : List T) : resI (none :: bs) (t :: ts) = t.toD.bind fun x => (resI bs ts).map (x :: ·) := rfl
@[simp] theorem resA_nil (γ : List T) : resA γ [] [] = some [] := rfl
@[simp] theorem resA_none (γ : List T) (bs : List (Option Nat)) (t : T) (ts : List T) : resA γ (none :: bs) (t :: ts) = t.toD.bind fun x => (resA γ bs ts).map (x :: ·) := rfl
@[simp] theorem resA_some (γ : List T) (i : Nat) (bs : List (Option Nat)) (t : T) (ts : List T) : resA γ (some i :: bs) (t :: ts) = ((γ[i]?).bind T.top).bind fun x => (resA γ bs ts).map (x :: ·) := rfl
@[simp] theorem takeArgs_nil (γ : List T) : takeArgs [] [] γ = some ([], γ) := rfl
@[simp] theorem takeArgs_none (bs : List (Option Nat)) (t : T) (ts γ : List T) : takeArgs (none :: bs) (t :: ts) γ = (takeArgs bs ts γ).map fun q => (t :: q.1, q.2) := rfl
@[simp] theorem takeArgs_some (i : Nat) (bs : List (Option Nat)) (t : T) (ts γ : List T) : takeArgs (some i :: bs) (t :: ts) γ = match γ[i]? with
    | some (.d x) => (takeArgs bs ts γ).map fun q => (.d x :: q.1, q.2)
    | some .em => none
    | some t => (takeArgs bs ts (γ.set i .em)).map fun q => (t :: q.1, q.2)
    | none => none := rfl
@[simp] theorem backArgs_nil (γ : List T) : backArgs [] [] [] γ = some γ := rfl
@[simp] theorem backArgs_none (bs : List (Option Nat)) (p q : T) (ps qs γ : List T) : backArgs (none :: bs) (p :: ps) (q :: qs) γ = backArgs bs ps qs γ := rfl
@[simp] theorem backArgs_d (i : Nat) (bs : List (Option Nat)) (x : D) (q : T) (ps qs γ : List T) : backArgs (some i :: bs) (.d x :: ps) (q :: qs) γ = backArgs bs ps qs γ := rfl
@[simp] theorem backArgs_lst (i : Nat) (bs : List (Option Nat)) (x : List D) (q : T) (ps qs γ : List T) : backArgs (some i :: bs) (.lst x :: ps) (q :: qs) γ = backArgs bs ps qs (γ.set i q) := rfl
@[simp] theorem backArgs_dic (i : Nat) (bs : List (Option Nat)) (ks : List Key) (x : List T) (q : T) (ps qs γ : List T) : backArgs (some i :: bs) (.dic ks x :: ps) (q :: qs) γ = backArgs bs ps qs (γ.set i q) := rfl
@[simp] theorem backArgs_obj (i : Nat) (bs : List (Option Nat)) (C : Addr) (ks : List Str) (x : List T) (q : T) (ps qs γ : List T) : backArgs (some i :: bs) (.obj C ks x :: ps) (q :: qs) γ = backArgs bs ps qs (γ.set i q) := rfl
@[simp] theorem callF_app (g : FN) (bs : List (Option Nat)) (ts γ : List T) : callF g bs ts γ = (takeArgs bs ts γ).bind fun p => match g p.1 with
  | some (.ret r post) => if post.length = p.1.length then (backArgs bs p.1 post p.2).map fun γ2 => (r, γ2) else none
  | _ => none := rfl
@[simp] theorem postP_nil (γ : List T) : postP [] γ = [] := by cases γ <;> rfl
@[simp] theorem postP_d (x : D) (t : T) (ps γ : List T) : postP (.d x :: ps) (t :: γ) = .d x :: postP ps γ := rfl
@[simp] theorem postP_lst (x : List D) (t : T) (ps γ : List T) : postP (.lst x :: ps) (t :: γ) = t :: postP ps γ := rfl
@[simp] theorem postP_dic (ks : List Key) (x : List T) (t : T) (ps γ : List T) : postP (.dic ks x :: ps) (t :: γ) = t :: postP ps γ := rfl
@[simp] theorem postP_obj (C : Addr) (ks : List Str) (x : List T) (t : T) (ps γ : List T) : postP (.obj C ks x :: ps) (t :: γ) = t :: postP ps γ := rfl
@[simp] theorem okW_nil (pre : List T) : okW [] pre = true := rfl
@[simp] theorem okW_cons (i : Nat) (wr : List Nat) (pre : List T) : okW (i :: wr) pre = ((match pre[i]? with
  | some t => t.isD
  | none => true) && okW wr pre) := rfl
@[simp] theorem isD_d (x : D) : T.isD (.d x) = true := rfl
@[simp] theorem unset_nil (γ : List T) : unset [] γ = γ := rfl
@[simp] theorem unset_cons (k : Nat) (vs : List Nat) (γ : List T) : unset (k :: vs) γ = (unset vs γ).set k .em := rfl
@[simp] theorem isEm_app (γ : List T) (k : Nat) : isEm γ k = match γ[k]? with
  | some .em => true
  | none => true
  | _ => false := rfl
/-! operators on kinds -/
@[simp] theorem oAdd_i (i j : Int) : oAdd (.int i) (.int j) = some (.int (i + j)) := rfl
@[simp] theorem oAdd_s (a b : Str) : oAdd (.str a) (.str b) = if a.length + b.length ≤ sizeLine then some (.str (a ++ b)) else none := rfl
@[simp] theorem oAdd_l (a b : List D) : oAdd (.lst a) (.lst b) = if a.length + b.length ≤ sizeLine then some (.lst (a ++ b)) else none := rfl
@[simp] theorem oAdd_t (a b : List D) : oAdd (.tup a) (.tup b) = if a.length + b.length ≤ sizeLine then some (.tup (a ++ b)) else none := rfl
@[simp] theorem oSub_i (i j : Int) : oSub (.int i) (.int j) = some (.int (i - j)) := rfl
@[simp] theorem oMul_i (i j : Int) : oMul (.int i) (.int j) = if mulOk i j then some (.int (i * j)) else none := rfl
@[simp] theorem oDiv_i (i j : Int) : oDiv (.int i) (.int j) = if dvOk j then some (.int (i / j)) else none := rfl
@[simp] theorem dvOk_t {j : Int} (h : 0 < j) (h2 : j ≤ 18446744073709551616) : dvOk j = True := eq_true (dvOk_s h h2)
@[simp] theorem oMod_i (i j : Int) : oMod (.int i) (.int j) = if 0 < j then some (.int (i % j)) else none := rfl
@[simp] theorem oPow_i (i j : Int) : oPow (.int i) (.int j) = if 0 ≤ j ∧ j ≤ 1000000 ∧ i.natAbs < 2 ^ 64 then some (.int (i ^ j.toNat)) else none := rfl
@[simp] theorem sEq_i (i j : Int) : sEq (.int i) (.int j) = some (decide (i = j)) := rfl
@[simp] theorem sEq_s (i j : Str) : sEq (.str i) (.str j) = some (decide (i = j)) := rfl
@[simp] theorem sEq_b (i j : Bool) : sEq (.bl i) (.bl j) = some (decide (i = j)) := rfl
@[simp] theorem sEq_nn : sEq .non .non = some true := rfl
@[simp] theorem sEq_ni (i : Int) : sEq .non (.int i) = some false := rfl
@[simp] theorem sEq_in (i : Int) : sEq (.int i) .non = some false := rfl
@[simp] theorem sEq_nb (i : Bool) : sEq .non (.bl i) = some false := rfl
@[simp] theorem sEq_bn (i : Bool) : sEq (.bl i) .non = some false := rfl
@[simp] theorem sEq_ns (i : Str) : sEq .non (.str i) = some false := rfl
@[simp] theorem sEq_sn (i : Str) : sEq (.str i) .non = some false := rfl
@[simp] theorem sEq_is (i : Int) (j : Str) : sEq (.int i) (.str j) = some false := rfl
@[simp] theorem sEq_si (i : Int) (j : Str) : sEq (.str j) (.int i) = some false := rfl
@[simp] theorem sEq_bs (i : Bool) (j : Str) : sEq (.bl i) (.str j) = some false := rfl
@[simp] theorem sEq_sb (i : Bool) (j : Str) : sEq (.str j) (.bl i) = some false := rfl
@[simp] theorem sEq_l (a : List D) (y : D) : sEq (.lst a) y = none := by cases y <;> rfl
@[simp] theorem sEq_t (a : List D) (y : D) : sEq (.tup a) y = none := by cases y <;> rfl
@[simp] theorem oEq_app (x y : D) : oEq x y = match sEq x y with
  | some b => some (.bl b)
  | none => if x.shaped = true ∧ y.shaped = true then some (.bl (D.eqv x y)) else none := rfl
@[simp] theorem oNe_app (x y : D) : oNe x y = match sEq x y with
  | some b => some (.bl (!b))
  | none => if x.shaped = true ∧ y.shaped = true then some (.bl (!D.eqv x y)) else none := rfl
@[simp] theorem items_l (ds : List D) : items (.lst ds) = some ds := rfl
@[simp] theorem items_t (ds : List D) : items (.tup ds) = some ds := rfl
@[simp] theorem walkD_l (ds : List D) : walkD (.lst ds) = some ds := rfl
@[simp] theorem walkD_t (ds : List D) : walkD (.tup ds) = some ds := rfl
@[simp] theorem walkD_s (s : Str) : walkD (.str s) = some (signs s) := rfl
@[simp] theorem flat_n : D.flat .non = true := rfl
@[simp] theorem flat_b (b : Bool) : D.flat (.bl b) = true := rfl
@[simp] theorem flat_i (i : Int) : D.flat (.int i) = true := rfl
@[simp] theorem flat_s (s : Str) : D.flat (.str s) = true := rfl
@[simp] theorem flat_l (s : List D) : D.flat (.lst s) = false := rfl
@[simp] theorem flat_t (s : List D) : D.flat (.tup s) = false := rfl
@[simp] theorem all_flat_i (ns : List Int) : (ns.map D.int).all D.flat = true := by rw [List.all_map]; exact List.all_eq_true.mpr fun _ _ => rfl
@[simp] theorem all_flat_s (ns : List Str) : (ns.map D.str).all D.flat = true := by rw [List.all_map]; exact List.all_eq_true.mpr fun _ _ => rfl
@[simp] theorem any_fEq_i (n : Int) (ns : List Int) : ((ns.map D.int).any fun z => fEq z (.int n)) = decide (n ∈ ns) := by
  rw [List.any_map]
  induction ns with
  | nil => rfl
  | cons m ms ih => rw [List.any_cons, ih, Bool.eq_iff_iff]; simp [fEq, eq_comm (a := m)]
@[simp] theorem any_fEq_s (n : Str) (ns : List Str) : ((ns.map D.str).any fun z => fEq z (.str n)) = decide (n ∈ ns) := by
  rw [List.any_map]
  induction ns with
  | nil => rfl
  | cons m ms ih => rw [List.any_cons, ih, Bool.eq_iff_iff]; simp [fEq, eq_comm (a := m)]
@[simp] theorem oIn_l (x : D) (ds : List D) : oIn x (.lst ds) = if x.flat = true ∧ ds.all D.flat = true then some (.bl (ds.any fun z => fEq z x)) else if x.shaped = true ∧ (D.lst ds).shaped = true then some (.bl (ds.any fun z => D.eqv z x)) else none := rfl
@[simp] theorem oIn_t (x : D) (ds : List D) : oIn x (.tup ds) = if x.flat = true ∧ ds.all D.flat = true then some (.bl (ds.any fun z => fEq z x)) else if x.shaped = true ∧ (D.tup ds).shaped = true then some (.bl (ds.any fun z => D.eqv z x)) else none := rfl
@[simp] theorem oNotIn_l (x : D) (ds : List D) : oNotIn x (.lst ds) = if x.flat = true ∧ ds.all D.flat = true then some (.bl (!ds.any fun z => fEq z x)) else if x.shaped = true ∧ (D.lst ds).shaped = true then some (.bl (!ds.any fun z => D.eqv z x)) else none := rfl
@[simp] theorem oNotIn_t (x : D) (ds : List D) : oNotIn x (.tup ds) = if x.flat = true ∧ ds.all D.flat = true then some (.bl (!ds.any fun z => fEq z x)) else if x.shaped = true ∧ (D.tup ds).shaped = true then some (.bl (!ds.any fun z => D.eqv z x)) else none := rfl
@[simp] theorem oLt_i (i j : Int) : oLt (.int i) (.int j) = some (.bl (decide (i < j))) := rfl
@[simp] theorem oLt_s (i j : Str) : oLt (.str i) (.str j) = some (.bl (decide (i.cps.toList < j.cps.toList))) := rfl
@[simp] theorem oLe_i (i j : Int) : oLe (.int i) (.int j) = some (.bl (decide (i ≤ j))) := rfl
@[simp] theorem oLe_s (i j : Str) : oLe (.str i) (.str j) = some (.bl (!decide (j.cps.toList < i.cps.toList))) := rfl
@[simp] theorem oGt_i (i j : Int) : oGt (.int i) (.int j) = some (.bl (decide (j < i))) := rfl
@[simp] theorem oGe_i (i j : Int) : oGe (.int i) (.int j) = some (.bl (decide (j ≤ i))) := rfl
@[simp] theorem oIsN_i (i : Int) : oIsN (.int i) .non = some (.bl false) := rfl
@[simp] theorem oIsN_s (i : Str) : oIsN (.str i) .non = some (.bl false) := rfl
@[simp] theorem oIsN_b (i : Bool) : oIsN (.bl i) .non = some (.bl false) := rfl
@[simp] theorem oIsN_n : oIsN .non .non = some (.bl true) := rfl
@[simp] theorem oIsN_l (l : List D) : oIsN (.lst l) .non = some (.bl false) := rfl
@[simp] theorem oIsN_t (l : List D) : oIsN (.tup l) .non = some (.bl false) := rfl
@[simp] theorem oIsN_o (C : Addr) (ns : List Str) (l : List D) : oIsN (.ins C ns l) .non = some (.bl false) := rfl
@[simp] theorem oNotN_i (i : Int) : oNotN (.int i) .non = some (.bl true) := rfl
@[simp] theorem oNotN_s (i : Str) : oNotN (.str i) .non = some (.bl true) := rfl
@[simp] theorem oNotN_b (i : Bool) : oNotN (.bl i) .non = some (.bl true) := rfl
@[simp] theorem oNotN_n : oNotN .non .non = some (.bl false) := rfl
@[simp] theorem oNotN_l (l : List D) : oNotN (.lst l) .non = some (.bl true) := rfl
@[simp] theorem oNotN_t (l : List D) : oNotN (.tup l) .non = some (.bl true) := rfl
@[simp] theorem oNotN_o (C : Addr) (ns : List Str) (l : List D) : oNotN (.ins C ns l) .non = some (.bl true) := rfl
@[simp] theorem oIsB_b (a b : Bool) : oIsB (.bl a) (.bl b) = some (.bl (decide (a = b))) := rfl
@[simp] theorem oNotB_b (a b : Bool) : oNotB (.bl a) (.bl b) = some (.bl (!decide (a = b))) := rfl
@[simp] theorem oIx_l (ds : List D) (k : Int) : oIx (.lst ds) (.int k) = atI ds k := rfl
@[simp] theorem oIx_t (ds : List D) (k : Int) : oIx (.tup ds) (.int k) = atI ds k := rfl
@[simp] theorem oIx_s (w : Str) (k : Int) : oIx (.str w) (.int k) = if w.length ≤ sizeLine then (atI w.cps.toList k).map fun c => .str ⟨#[c]⟩ else none := rfl
@[simp] theorem oNeg_i (i : Int) : oNeg (.int i) = some (.int (-i)) := rfl
@[simp] theorem oLen_l (ds : List D) : oLen (.lst ds) = some (.int (ds.length : Nat)) := rfl
@[simp] theorem oLen_t (ds : List D) : oLen (.tup ds) = some (.int (ds.length : Nat)) := rfl
@[simp] theorem oLen_s (w : Str) : oLen (.str w) = if w.length ≤ sizeLine then some (.int (w.length : Nat)) else none := rfl
@[simp] theorem oInt_i (i : Int) : oInt (.int i) = some (.int i) := rfl
@[simp] theorem oInt_b (k : Bool) : oInt (.bl k) = some (.int (if k then 1 else 0)) := rfl
@[simp] theorem oAbs_i (i : Int) : oAbs (.int i) = some (.int (if i < 0 then -i else i)) := rfl
@[simp] theorem oStr_i (i : Int) : oStr (.int i) = if i.natAbs.log2 < 1920 then some (.str (toString i)) else none := rfl
@[simp] theorem oMax2_i (i j : Int) : oMax2 (.int i) (.int j) = some (.int (if j > i then j else i)) := rfl
@[simp] theorem oMin2_i (i j : Int) : oMin2 (.int i) (.int j) = some (.int (if j < i then j else i)) := rfl
@[simp] theorem oList_l (ds : List D) : oList (.lst ds) = some (.lst ds) := rfl
@[simp] theorem oList_t (ds : List D) : oList (.tup ds) = some (.lst ds) := rfl
@[simp] theorem oTuple_l (ds : List D) : oTuple (.lst ds) = some (.tup ds) := rfl
@[simp] theorem oTuple_t (ds : List D) : oTuple (.tup ds) = some (.tup ds) := rfl
@[simp] theorem allB_map (bs : List Bool) : allB (bs.map .bl) = some bs := by induction bs with
  | nil => rfl
  | cons b bs ih => simp [allB, ih]
@[simp] theorem allI_map (bs : List Int) : allI (bs.map .int) = some bs := by induction bs with
  | nil => rfl
  | cons b bs ih => simp [allI, ih]
@[simp] theorem allS_map (bs : List Str) : allS (bs.map .str) = some bs := by induction bs with
  | nil => rfl
  | cons b bs ih => simp [allS, ih]
@[simp] theorem oAny_l (bs : List Bool) : oAny (.lst (bs.map .bl)) = some (.bl (bs.any id)) := by simp [oAny]
@[simp] theorem oAll_l (bs : List Bool) : oAll (.lst (bs.map .bl)) = some (.bl (bs.all id)) := by simp [oAll]
@[simp] theorem oSum_l (bs : List Int) : oSum (.lst (bs.map .int)) = some (.int bs.sum) := by simp [oSum]
@[simp] theorem oSl_l (ds : List D) (lo hi : Option Int) : oSl (.lst ds) lo hi = some (.lst (cutD ds lo hi)) := rfl
@[simp] theorem oSl_t (ds : List D) (lo hi : Option Int) : oSl (.tup ds) lo hi = some (.tup (cutD ds lo hi)) := rfl
@[simp] theorem oRev_l (ds : List D) : oRev (.lst ds) = some (.lst ds.reverse) := rfl
@[simp] theorem atI_00 {α : Type} (x : α) (xs : List α) : atI (x :: xs) 0 = some x := atI_nat (j := 0) (xs := x :: xs) rfl
@[simp] theorem atI_11 {α : Type} (x y : α) (xs : List α) : atI (x :: y :: xs) 1 = some y := atI_nat (j := 1) (xs := x :: y :: xs) rfl
@[simp] theorem atI_22 {α : Type} (x y z : α) (xs : List α) : atI (x :: y :: z :: xs) 2 = some z := atI_nat (j := 2) (xs := x :: y :: z :: xs) rfl
/-! walks by maps -/
theorem forS_fold {α S : Type} {enc : α → D} {g : D → List T → Option (List T)} {b : List T → Option O} (Γ : S → List T) (step : S → α → S) (P : S → Prop) : ∀ (xs : List α) (s : S), P s → (∀ s x, P s → x ∈ xs → P (step s x)) →
    (∀ s x, P s → x ∈ xs → ((g (enc x) (Γ s)).bind b = some (.nx (Γ (step s x))))) → forS g b (xs.map enc) (Γ s) = some (.nx (Γ (xs.foldl step s)))
  | [], _, _, _, _ => rfl
  | x :: xs, s, hP, hs, hb => by
    have h := hb s x hP (by simp)
    rw [List.map_cons]
    unfold forS
    obtain ⟨γ1, e1, e2⟩ := Option.bind_eq_some_iff.mp h
    rw [e1, Option.bind_some, e2, Option.bind_some]
    exact forS_fold Γ step P xs (step s x) (hs s x hP (by simp)) (fun s y p m => hs s y p (by simp [m])) fun s y p m => hb s y p (by simp [m])
theorem lcP_map {α : Type} {enc : α → D} {g : D → List T → Option (List T)} {c : List T → Option Bool} {f : List T → Option D} {γ : List T} (p : α → Bool) (w : α → D) : ∀ (xs : List α), (∀ x ∈ xs, ∃ γ1, g (enc x) γ = some γ1 ∧ c γ1 = some (p x) ∧ (p x = true → f γ1 = some (w x))) → lcP g c f γ (xs.map enc) = some ((xs.filter p).map w)
  | [], _ => rfl
  | x :: xs, h => by
    obtain ⟨γ1, e1, e2, e3⟩ := h x (by simp)
    rw [List.map_cons]
    unfold lcP
    rw [e1, Option.bind_some, e2, Option.bind_some, lcP_map p w xs fun y m => h y (by simp [m])]
    cases hp : p x with
    | true => simp [e3 hp, hp]
    | false => simp [hp]
theorem lcP_mapT {α : Type} {enc : α → D} {g : D → List T → Option (List T)} {f : List T → Option D} {γ : List T} (w : α → D) (xs : List α) (h : ∀ x ∈ xs, ∃ γ1, g (enc x) γ = some γ1 ∧ f γ1 = some (w x)) : lcP g bYes f γ (xs.map enc) = some (xs.map w) := by
  have := lcP_map (c := bYes) (fun _ => true) w xs fun x m => let ⟨γ1, e1, e2⟩ := h x m; ⟨γ1, e1, rfl, fun _ => e2⟩
  rwa [filter_true] at this
/-- a state that goes along -/
theorem lcE_map {α S : Type} {enc : α → D} {vs : List Nat} {g : D → List T → Option (List T)} {c : List T → Option (Bool × List T)} {f : List T → Option (T × List T)} (Γ : S → List T) (step : S → α → S) (w : S → α → D) (P : S → Prop) : ∀ (xs : List α) (s : S), P s → (∀ s x, P s → x ∈ xs → P (step s x)) →
    (∀ s x, P s → x ∈ xs → ∃ γ1 γ2 t γ3, g (enc x) (Γ s) = some γ1 ∧ c γ1 = some (true, γ2) ∧ f γ2 = some (t, γ3) ∧ t.toD = some (w s x) ∧ unset vs γ3 = Γ (step s x)) →
    ∃ ys, lcE vs g c f (xs.map enc) (Γ s) = some (ys, Γ (xs.foldl step s)) ∧ ys = (xs.foldl (fun (p : S × List D) x => (step p.1 x, p.2 ++ [w p.1 x])) (s, [])).2
  | [], _, _, _, _ => ⟨[], rfl, rfl⟩
  | x :: xs, s, hP, hs, hb => by
    obtain ⟨γ1, γ2, t, γ3, e1, e2, e3, e4, e5⟩ := hb s x hP (by simp)
    obtain ⟨ys, h1, h2⟩ := lcE_map Γ step w P xs (step s x) (hs s x hP (by simp)) (fun s y p m => hs s y p (by simp [m])) fun s y p m => hb s y p (by simp [m])
    have key : ∀ (xs : List α) (s : S) (a : List D), (xs.foldl (fun (p : S × List D) x => (step p.1 x, p.2 ++ [w p.1 x])) (s, a)).2 = a ++ (xs.foldl (fun (p : S × List D) x => (step p.1 x, p.2 ++ [w p.1 x])) (s, [])).2 := by
      intro xs
      induction xs with
      | nil => intro s a; simp
      | cons y ys ih => intro s a; rw [List.foldl_cons, List.foldl_cons, ih, ih (a := [] ++ _)]; simp
    refine ⟨w s x :: ys, ?_, ?_⟩
    · rw [List.map_cons]
      unfold lcE
      rw [e1, Option.bind_some, e2, Option.bind_some]
      simp [e3, e4, e5, h1]
    · rw [List.foldl_cons, key, h2]
      simp
end FD

/-! FSA: objects: fields, methods, makers. -/
namespace FD
open PySem PySem.Spec PyProof.Rows L2
structure ClsF (K : PySem.W.Frag) (C : Addr) (ns : List Str) : Prop where
  cls : Cls K C
  no : ∀ f ∈ ns, NoAttr K C f
  nd : ns.Nodup
section
variable {K : PySem.W.Frag} {wr : List Nat} {W : WX'} {ta tb tc te to td ty tx : TE} {tt tu : TT} {ts tv : TS} {I I' H H' : Hp} {γ γ' : List T} {σ : Sg} {L : List Addr} {v : V} {x : D} {C : Addr} {ns : List Str} {fn : Str}
theorem lookup_fs : ∀ {fs : List (Str × V)} {i : Nat} {f : Str} {v : V}, (fs.map (·.1)).Nodup → (fs.map (·.1))[i]? = some f → (fs.map (·.2))[i]? = some v → fs.lookup f = some v
  | [], i, _, _, _, h, _ => by simp at h
  | (n, w) :: fs, 0, f, v, _, h, h' => by simp at h h'; subst h h'; simp [List.lookup_cons]
  | (n, w) :: fs, i + 1, f, v, nd, h, h' => by
    simp only [List.map_cons, List.nodup_cons] at nd
    simp only [List.map_cons, List.getElem?_cons_succ] at h h'
    have ne : (f == n) = false := beq_eq_false_iff_ne.mpr fun e => nd.1 (e ▸ List.mem_of_getElem? h)
    rw [List.lookup_cons, ne]
    exact lookup_fs nd.2 h h'
theorem lookup_no : ∀ {fs : List (Str × V)} {f : Str}, f ∉ fs.map (·.1) → fs.lookup f = none
  | [], _, _ => rfl
  | (n, w) :: fs, f, h => by
    simp only [List.map_cons, List.mem_cons, not_or] at h
    have ne : (f == n) = false := beq_eq_false_iff_ne.mpr h.1
    rw [List.lookup_cons, ne]
    exact lookup_no h.2
/-- e.f, e data -/
def pFld (C : Addr) (ns : List Str) (i : Nat) (g : List T → Option D) : List T → Option D := fun γ => (g γ).bind fun x => match x with
  | .ins C' ns' ds => if C' = C ∧ ns' = ns then ds[i]? else none
  | _ => none
theorem pu_fld {i : Nat} {g : List T → Option D} (c : ClsF K C ns) (hi : ns[i]? = some fn) (hg : Pu K te g) : Pu K (tFld K te fn) (pFld C ns i g) := fun γ z e σ I H L w Q k => by
  unfold pFld at e
  replace e := Option.bind_eq_some_iff.mp e
  obtain ⟨x, e1, e⟩ := e
  split at e
  · split at e
    · rename_i C' ns' ds hc
      obtain ⟨rfl, rfl⟩ := hc
      refine hg γ _ e1 σ I H L w _ fun v I1 H1 n1 s1 hv => ?_
      cases hv with
      | @ins a _ dx fs _ _ h1 h2 h3 =>
        obtain ⟨u, hu, hz⟩ := h3.getD e
        subst h2
        exact ⟨a, _, dx, fs, u, rfl, s1 _ _ h1, c.cls, c.no _ (List.mem_of_getElem? hi), lookup_fs c.nd hi hu, k u I1 H1 n1 s1 hz⟩
    · cases e
  · cases e
/-- e.f, e at a place -/
def cFldL (C : Addr) (ns : List Str) (i : Nat) (l : List T → Option (Nat × Pth)) : List T → Option D := fun γ => (l γ).bind fun p => match gAt γ p.1 p.2 with
  | some (.obj C' ns' ts) => if C' = C ∧ ns' = ns then (ts[i]?).bind T.top else none
  | some (.d (.ins C' ns' ds)) => if C' = C ∧ ns' = ns then ds[i]? else none
  | _ => none
def pFldL (C : Addr) (ns : List Str) (i : Nat) (l : List T → Option (Nat × Pth)) : List T → Option D := fun γ => (l γ).bind fun p => match gAt γ p.1 p.2 with
  | some (.obj C' ns' ts) => if C' = C ∧ ns' = ns then (match ts[i]? with
    | some (.d x) => some x
    | _ => none) else none
  | some (.d (.ins C' ns' ds)) => if C' = C ∧ ns' = ns then ds[i]? else none
  | _ => none
theorem OwA.at_ : ∀ {ts : List T} {vs : List V} {L : List Addr} {i : Nat} {t : T}, OwA K I H vs ts L → ts[i]? = some t → ∃ v Li, vs[i]? = some v ∧ Ow K I H v t Li := fun h e => by
  obtain ⟨v, h1, _, Li, _, _, h2, _⟩ := h.get e
  exact ⟨v, Li, h1, h2⟩
theorem cu_fldL {i : Nat} {l : List T → Option (Nat × Pth)} (c : ClsF K C ns) (hi : ns[i]? = some fn) (hl : Lo K te l) : Cu K (tFld K te fn) (cFldL C ns i l) := fun γ z e σ I H L w Q k => by
  unfold cFldL at e
  replace e := Option.bind_eq_some_iff.mp e
  obtain ⟨⟨s, p⟩, e1, e⟩ := e
  dsimp only at e
  refine hl γ s p e1 σ I H L w _ fun v v0 t h1 h2 h3 => ?_
  split at e
  · rename_i C' ns' ts e2
    split at e
    · rename_i hc
      obtain ⟨rfl, rfl⟩ := hc
      replace e := Option.bind_eq_some_iff.mp e
      obtain ⟨u, e3, e4⟩ := e
      obtain ⟨Li, h4, _⟩ := w.placeV e2 (fun z => nomatch z) h1 h2 h3
      cases h4 with
      | @obj a dx fs _ _ _ L' g0 g1 g2 g3 g4 =>
        obtain ⟨y, Ly, hy, oy⟩ := g4.at_ e3
        subst g3
        exact ⟨a, _, dx, fs, y, rfl, g1, c.cls, c.no _ (List.mem_of_getElem? hi), lookup_fs c.nd hi hy, k y I H (New.refl I H) w.sub (oy.top e4)⟩
    · cases e
  · rename_i C' ns' ds e2
    split at e
    · rename_i hc
      obtain ⟨rfl, rfl⟩ := hc
      obtain ⟨Li, h4, _⟩ := w.placeV e2 (fun z => nomatch z) h1 h2 h3
      cases h4 with
      | d h4 =>
        cases h4 with
        | @ins a _ dx fs _ _ g1 g2 g3 =>
          obtain ⟨u, hu, hz⟩ := g3.getD e
          subst g2
          exact ⟨a, _, dx, fs, u, rfl, w.sub _ _ g1, c.cls, c.no _ (List.mem_of_getElem? hi), lookup_fs c.nd hi hu, k u I H (New.refl I H) w.sub (.is hz)⟩
    · cases e
  · cases e
theorem pu_fldL {i : Nat} {l : List T → Option (Nat × Pth)} (c : ClsF K C ns) (hi : ns[i]? = some fn) (hl : Lo K te l) : Pu K (tFld K te fn) (pFldL C ns i l) := fun γ z e σ I H L w Q k => by
  unfold pFldL at e
  replace e := Option.bind_eq_some_iff.mp e
  obtain ⟨⟨s, p⟩, e1, e⟩ := e
  dsimp only at e
  refine hl γ s p e1 σ I H L w _ fun v v0 t h1 h2 h3 => ?_
  split at e
  · rename_i C' ns' ts e2
    split at e
    · rename_i hc
      obtain ⟨rfl, rfl⟩ := hc
      split at e
      · rename_i x e3
        cases e
        obtain ⟨Li, h4, _⟩ := w.placeV e2 (fun z => nomatch z) h1 h2 h3
        cases h4 with
        | @obj a dx fs _ _ _ L' g0 g1 g2 g3 g4 =>
          obtain ⟨y, Ly, hy, oy⟩ := g4.at_ e3
          subst g3
          cases oy with
          | d oy => exact ⟨a, _, dx, fs, y, rfl, g1, c.cls, c.no _ (List.mem_of_getElem? hi), lookup_fs c.nd hi hy, k y I H (New.refl I H) w.sub oy⟩
      · cases e
    · cases e
  · rename_i C' ns' ds e2
    split at e
    · rename_i hc
      obtain ⟨rfl, rfl⟩ := hc
      obtain ⟨Li, h4, _⟩ := w.placeV e2 (fun z => nomatch z) h1 h2 h3
      cases h4 with
      | d h4 =>
        cases h4 with
        | @ins a _ dx fs _ _ g1 g2 g3 =>
          obtain ⟨u, hu, hz⟩ := g3.getD e
          subst g2
          exact ⟨a, _, dx, fs, u, rfl, w.sub _ _ g1, c.cls, c.no _ (List.mem_of_getElem? hi), lookup_fs c.nd hi hu, k u I H (New.refl I H) w.sub hz⟩
    · cases e
  · cases e
/-- the place of a field -/
def lFld (C : Addr) (ns : List Str) (i : Nat) (l : List T → Option (Nat × Pth)) : List T → Option (Nat × Pth) := fun γ => (l γ).bind fun p => match gAt γ p.1 p.2 with
  | some (.obj C' ns' ts) => if C' = C ∧ ns' = ns then (match ts[i]? with
    | some .em => none
    | some _ => some (p.1, p.2 ++ [i])
    | none => none) else none
  | _ => none
theorem At.snoc {i : Nat} {a dx C : Addr} {fs : List (Str × V)} {ns : List Str} {ts : List T} {y : V} {u : T} : ∀ {p : Pth} {t : T} {v0 : V}, At H v0 t p (.ref a) → t.at_ p = some (.obj C ns ts) → H a = some (.ins C dx fs) → (fs.map (·.2))[i]? = some y → ts[i]? = some u → At H v0 t (p ++ [i]) y
  | [], t, v0, h, e, h1, h2, h3 => by
    cases h
    cases e
    exact .obj h1 h2 h3 .nil
  | j :: p, t, v0, h, e, h1, h2, h3 => by
    cases h with
    | dic g1 g2 g3 g4 =>
      rw [T.at_] at e
      simp only [T.kids] at e
      rw [g3] at e
      exact .dic g1 g2 g3 (At.snoc g4 e h1 h2 h3)
    | obj g1 g2 g3 g4 =>
      rw [T.at_] at e
      simp only [T.kids] at e
      rw [g3] at e
      exact .obj g1 g2 g3 (At.snoc g4 e h1 h2 h3)
theorem lo_fld {i : Nat} {l : List T → Option (Nat × Pth)} (c : ClsF K C ns) (hi : ns[i]? = some fn) (hl : Lo K te l) : Lo K (tFld K te fn) (lFld C ns i l) := fun γ s' p' e σ I H L w Q k => by
  unfold lFld at e
  replace e := Option.bind_eq_some_iff.mp e
  obtain ⟨⟨s, p⟩, e1, e⟩ := e
  dsimp only at e
  refine hl γ s p e1 σ I H L w _ fun v v0 t h1 h2 h3 => ?_
  split at e
  · rename_i C' ns' ts e2
    split at e
    · rename_i hc
      obtain ⟨rfl, rfl⟩ := hc
      have key : ∀ u, ts[i]? = some u → s' = s → p' = p ++ [i] → tFld K (fun _ H Q => Q v H) fn σ H Q := fun u e3 es ep => by
        subst es ep
        obtain ⟨Li, h4, _⟩ := w.placeV e2 (fun z => nomatch z) h1 h2 h3
        cases h4 with
        | @obj a dx fs _ _ _ L' g0 g1 g2 g3 g4 =>
          obtain ⟨y, Ly, hy, oy⟩ := g4.at_ e3
          subst g3
          have e2' : t.at_ p = some (.obj C' (fs.map (·.1)) ts) := by
            unfold gAt at e2
            rw [h2] at e2
            exact e2
          exact ⟨a, _, dx, fs, y, rfl, g1, c.cls, c.no _ (List.mem_of_getElem? hi), lookup_fs c.nd hi hy, k y v0 t h1 h2 (At.snoc h3 e2' g1 hy e3)⟩
      split at e
      · cases e
      · rename_i u ne e3
        cases e
        exact key u e3 rfl rfl
      · cases e
    · cases e
  · cases e
/-! methods -/
/-- of data -/
def pMeth (C : Addr) (ns : List Str) (g : FN) (f : List T → Option D) (a : List T → Option (List D)) : List T → Option D := fun γ => (f γ).bind fun x => match x with
  | .ins C' ns' ds => if C' = C ∧ ns' = ns then (a γ).bind fun xs => (match g (.d (.ins C' ns' ds) :: xs.map .d) with
    | some (.ret r _) => r.toD
    | _ => none) else none
  | _ => none
theorem pu_meth {m : Str} {g : FN} {f : List T → Option D} {a : List T → Option (List D)} {tr : TA} {E : XK} (hm : m ∉ ns) (hf : Pu K to f) (ha : PuA K tr a) : Pu K (tMeth C m (spF K g) [] E to tr) (pMeth C ns g f a) := fun γ z e σ I H L w Q k => by
  unfold pMeth at e
  replace e := Option.bind_eq_some_iff.mp e
  obtain ⟨x, e1, e⟩ := e
  split at e
  · rename_i C' ns' ds
    split at e
    · rename_i hc
      obtain ⟨rfl, rfl⟩ := hc
      replace e := Option.bind_eq_some_iff.mp e
      obtain ⟨xs, e2, e⟩ := e
      split at e
      · rename_i r post hg
        refine hf γ _ e1 σ I H L w _ fun v I1 H1 n1 s1 hv => ?_
        cases id hv with
        | @ins p _ dx fs _ _ g1 g2 g3 =>
          refine ⟨p, dx, fs, rfl, s1 _ _ g1, lookup_no (g2 ▸ hm), ha γ xs e2 σ I1 H1 L (w.new n1 s1) _ fun vs I2 H2 n2 s2 hvs => ?_⟩
          rw [List.append_nil]
          exact spF_pure (xs := .ins _ _ ds :: xs) s2 (.cons (hv.mono n2.i) hvs) hg e fun u I3 H3 n s h => k u I3 H3 ((n1.trans n2).trans n) s h
      · cases e
    · cases e
  · cases e
/-- of a slot's own object -/
def eMeth (C : Addr) (ns : List Str) (g : FN) (i : Nat) (bs : List (Option Nat)) (a : List T → Option (List T × List T)) : List T → Option (T × List T) := fun γ => match γ[i]? with
  | some (.obj C' ns' _) => if C' = C ∧ ns' = ns then (a γ).bind fun q => callF g (some i :: bs) (.em :: q.1) q.2 else none
  | some (.d (.ins C' ns' _)) => if C' = C ∧ ns' = ns then (a γ).bind fun q => callF g (some i :: bs) (.em :: q.1) q.2 else none
  | _ => none
theorem ef_meth {m : Str} {g : FN} {i : Nat} {bs : List (Option Nat)} {a : List T → Option (List T × List T)} {tr : TA} {E : XK} (hm : m ∉ ns) (ha : EfA K tr bs a) : Ef K (tMeth C m (spF K g) [] E (tVar i) tr) (eMeth C ns g i bs a) := fun γ t γ' e σ I H L w Q k => by
  have key : ∀ u v p dx fs, γ[i]? = some u → u ≠ .em → σ[i]? = some (some v) → v = .ref p → H p = some (.ins C dx fs) → ns = fs.map (·.1) → ((a γ).bind fun q => callF g (some i :: bs) (.em :: q.1) q.2) = some (t, γ') → tMeth C m (spF K g) [] E (tVar i) tr σ H Q := fun u v p dx fs h0 hne h1 ev hp hns e => by
    subst ev
    replace e := Option.bind_eq_some_iff.mp e
    obtain ⟨⟨ts, γ1⟩, e1, e⟩ := e
    refine ⟨_, h1, p, dx, fs, rfl, hp, lookup_no (hns ▸ hm), ha γ ts γ1 e1 σ I H L w _ fun vs I1 H1 L1 w1 s1 hb => ?_⟩
    rw [List.append_nil]
    exact call_ok (ts := .em :: ts) (vs := .ref p :: vs) (bs := some i :: bs) ⟨.em _ w1.env, w1.nd, w1.fr, w1.sub⟩ ⟨_, vs, rfl, h1, hb⟩ e fun u I2 H2 L2 w2 s2 => k u I2 H2 L2 w2 (s1.trans s2)
  unfold eMeth at e
  split at e
  · rename_i C' ns' ts h0
    split at e
    · rename_i hc
      obtain ⟨rfl, rfl⟩ := hc
      obtain ⟨v, h1, Li, h2, _⟩ := w.stepSlot h0 (fun z => nomatch z)
      cases h2 with
      | obj g0 g1 g2 g3 g4 => exact key _ _ _ _ _ h0 (fun z => nomatch z) h1 rfl g1 g3 e
    · cases e
  · rename_i C' ns' ds h0
    split at e
    · rename_i hc
      obtain ⟨rfl, rfl⟩ := hc
      obtain ⟨v, h1, h2⟩ := w.env.getD h0
      cases h2 with
      | ins g1 g2 g3 => exact key _ _ _ _ _ h0 (fun z => nomatch z) h1 rfl (w.sub _ _ g1) g2 e
    · cases e
  · cases e
/-- of an object at a place, the arguments data -/
def eMethL (C : Addr) (ns : List Str) (g : FN) (l : List T → Option (Nat × Pth)) (a : List T → Option (List D)) : List T → Option (T × List T) := fun γ => (l γ).bind fun p => match gAt γ p.1 p.2 with
  | some (.obj C' ns' ts) => if C' = C ∧ ns' = ns then (a γ).bind fun xs => (match g (.obj C' ns' ts :: xs.map .d) with
    | some (.ret r (u :: _)) => match u with
      | .em => none
      | u => r.toD.map fun y => (.d y, gPut γ p.1 p.2 u)
    | _ => none) else none
  | _ => none
theorem ef_methL {m : Str} {g : FN} {l : List T → Option (Nat × Pth)} {a : List T → Option (List D)} {tr : TA} {E : XK} (hm : m ∉ ns) (hl : Lo K to l) (ha : PuA K tr a) : Ef K (tMeth C m (spF K g) [] E to tr) (eMethL C ns g l a) := fun γ t γ' e σ I H L w Q k => by
  unfold eMethL at e
  replace e := Option.bind_eq_some_iff.mp e
  obtain ⟨⟨s, p⟩, e1, e⟩ := e
  dsimp only at e
  split at e
  · rename_i C' ns' ts e2
    split at e
    · rename_i hc
      obtain ⟨rfl, rfl⟩ := hc
      replace e := Option.bind_eq_some_iff.mp e
      obtain ⟨xs, e3, e⟩ := e
      split at e
      · rename_i r u post hg
        have hu : u ≠ .em ∧ ∃ x, r.toD = some x ∧ t = .d x ∧ γ' = gPut γ s p u := by
          split at e
          · cases e
          · rename_i u' ne
            obtain ⟨x, e4, e5⟩ := Option.map_eq_some_iff.mp e
            cases e5
            exact ⟨fun z => ne z, x, e4, rfl, rfl⟩
        obtain ⟨hu, x, hx, rfl, rfl⟩ := hu
        refine hl γ s p e1 σ I H L w _ fun v v0 t0 h1 h2 h3 => ?_
        obtain ⟨Li, h4, _⟩ := w.placeV e2 (fun z => nomatch z) h1 h2 h3
        cases h4 with
        | @obj q dx fs _ _ _ L' g0 g1 g2 g3 g4 =>
          refine ⟨q, dx, fs, rfl, g1, lookup_no (g3 ▸ hm), ha γ xs e3 σ I H L w _ fun vs I1 H1 n1 s1 hv => ?_⟩
          rw [List.append_nil]
          have w1 := w.new n1 s1
          obtain ⟨Li, h5, nd, fr, fin⟩ := w1.placeV e2 (fun z => nomatch z) h1 h2 (h3.keep n1.h)
          refine ⟨_, _, I1, Li, hg, ⟨?_, nd, fr, s1⟩, fun y I2 H2 L2 w2 s2 => ?_⟩
          · have := EnvT.cons (σ := vs.map some) h5 (env_ds (H := H1) hv)
            rw [List.append_nil] at this
            exact this
          · obtain ⟨I3, L3, w3, s3, h⟩ := w2.frz hx
            have e3 := w3.env
            cases e3 with
            | em => exact absurd rfl hu
            | @cons _ _ _ _ N1 N2 ou er =>
              have nd3 := List.nodup_append.mp w3.nd
              have ss := s2.trans s3
              have sN : Step I1 H1 Li I3 H2 N1 := ⟨ss.i, ss.keep, fun a ha => ss.l a (by simp [ha]), ss.n⟩
              obtain ⟨L4, w4, s4⟩ := fin I3 H2 u N1 sN nd3.1 (fun a ha => w3.fr a (by simp [ha])) w3.sub ou
              exact k y I3 H2 L4 (w4.front h) (n1.stp.trans s4)
      · cases e
    · cases e
  · cases e
end
end FD

/-! FSB: makers, fields written. -/
namespace FD
open PySem PySem.Spec PyProof.Rows L2
section
variable {K : PySem.W.Frag} {wr : List Nat} {W : WX'} {ta tb tc te to td ty tx : TE} {tt tu : TT} {ts tv : TS} {I I' H H' : Hp} {γ γ' : List T} {σ : Sg} {L : List Addr} {t : T} {v : V} {x : D} {C : Addr} {ns : List Str} {fn : Str}
/-- a new empty object between the arguments and the slots -/
theorem WS.layO {ts : List T} {vs : Sg} {p dx : Addr} (w : WS K (ts ++ γ) (vs ++ σ) I H L) (hl : ts.length = vs.length) (hp : H p = none) (hd : H dx = none) (hne : dx ≠ p) :
    ∃ L', WS K (ts ++ .obj C [] [] :: γ) (vs ++ some (.ref p) :: σ) I (upd (upd H dx (.own p)) p (.ins C dx [])) L' ∧ Step I H L I (upd (upd H dx (.own p)) p (.ins C dx [])) L' := by
  obtain ⟨L1, L2, rfl, e1, e2⟩ := EnvT.split hl w.env
  have pn : ∀ a ∈ L1 ++ L2, a ≠ p := fun a h e => w.live a h (e ▸ hp)
  have dn : ∀ a ∈ L1 ++ L2, a ≠ dx := fun a h e => w.live a h (e ▸ hd)
  have kp : ∀ a, a ≠ p → a ≠ dx → upd (upd H dx (.own p)) p (.ins C dx []) a = H a := fun a h1 h2 => by rw [upd_ne h1, upd_ne h2]
  have ex : ∀ a u, H a = some u → upd (upd H dx (.own p)) p (.ins C dx []) a = some u := fun a u e => by
    rw [kp a (fun z => by subst z; rw [hp] at e; cases e) (fun z => by subst z; rw [hd] at e; cases e)]; exact e
  refine ⟨L1 ++ ([p, dx] ++ L2), ⟨EnvT.join (e1.keep (Ex.refl I) fun a h => kp a (pn a (by simp [h])) (dn a (by simp [h]))) (.cons (.obj (L := []) (Ne.symm hne) upd_same (by rw [upd_ne hne]; exact upd_same) rfl .nil) (e2.keep (Ex.refl I) fun a h => kp a (pn a (by simp [h])) (dn a (by simp [h])))), ?_, ?_, ?_⟩, ⟨Ex.refl I, fun a u e _ => ex a u e, fun a h => ?_, fun a u e => .inl e⟩⟩
  · have nd := List.nodup_append.mp w.nd
    refine List.nodup_append.mpr ⟨nd.1, List.nodup_append.mpr ⟨by simp [Ne.symm hne], nd.2.1, fun a h b h2 e => ?_⟩, fun a h b h2 e => ?_⟩
    · subst e
      simp at h
      rcases h with rfl | rfl
      · exact pn _ (by simp [h2]) rfl
      · exact dn _ (by simp [h2]) rfl
    · subst e
      simp at h2
      rcases h2 with rfl | rfl | h2
      · exact pn _ (by simp [h]) rfl
      · exact dn _ (by simp [h]) rfl
      · exact nd.2.2 a h a h2 rfl
  · intro a h
    simp at h
    rcases h with h | rfl | rfl | h
    · exact w.fr a (by simp [h])
    · exact w.sub.back hp
    · exact w.sub.back hd
    · exact w.fr a (by simp [h])
  · exact fun a u e => ex a u (w.sub a u e)
  · simp at h
    rcases h with h | rfl | rfl | h
    · exact .inl (by simp [h])
    · exact .inr hp
    · exact .inr hd
    · exact .inl (by simp [h])
theorem takeArgs_len : ∀ {bs : List (Option Nat)} {ts γ : List T} {q : List T × List T}, takeArgs bs ts γ = some q → ts.length = bs.length
  | [], [], _, _, _ => rfl
  | [], _ :: _, _, _, e => by simp [takeArgs] at e
  | none :: _, [], _, _, e => by simp [takeArgs] at e
  | some _ :: _, [], _, _, e => by simp [takeArgs] at e
  | none :: bs, t :: ts, γ, q, e => by
    unfold takeArgs at e
    obtain ⟨r, h, _⟩ := Option.map_eq_some_iff.mp e
    simp [takeArgs_len h]
  | some i :: bs, t :: ts, γ, q, e => by
    unfold takeArgs at e
    split at e
    · obtain ⟨r, h, _⟩ := Option.map_eq_some_iff.mp e
      simp [takeArgs_len h]
    · cases e
    · obtain ⟨r, h, _⟩ := Option.map_eq_some_iff.mp e
      simp [takeArgs_len h]
    · cases e
/-- the heart of a maker -/
def makeF (C : Addr) (g : FN) (bs : List (Option Nat)) (ts γ : List T) : Option (T × List T) := (callF g (some 0 :: bs.map (Option.map (· + 1))) (.em :: ts) (.obj C [] [] :: γ)).bind fun q => match q with
  | (.d .non, o :: γ') => some (o, γ')
  | _ => none
theorem Bor.up {y : Option V} : ∀ {bs : List (Option Nat)} {vs : List V}, Bor σ bs vs → Bor (y :: σ) (bs.map (Option.map (· + 1))) vs
  | [], _, h => h
  | none :: bs, _, ⟨v, ws, h, r⟩ => ⟨v, ws, h, Bor.up r⟩
  | some i :: bs, _, ⟨v, ws, h, h2, r⟩ => ⟨v, ws, h, h2, Bor.up r⟩
theorem make_ok {g : FN} {bs : List (Option Nat)} {ts : List T} {vs : List V} {o : T} {γ2 : List T} {p dx : Addr} (w : WS K (ts ++ γ) (vs.map some ++ σ) I H L) (hb : Bor σ bs vs) (e : makeF C g bs ts γ = some (o, γ2)) (hp : H p = none) (hd : H dx = none) (hne : dx ≠ p) {Q : VK} {E : XK} (k : ∀ I' H' L', WS K (o :: γ2) (some (.ref p) :: σ) I' H' L' → Step I H L I' H' L' → Q (.ref p) H') : spF K g (.ref p :: vs) (upd (upd H dx (.own p)) p (.ins C dx [])) (fun v H2 => v = .non ∧ Q (.ref p) H2) E := by
  unfold makeF at e
  replace e := Option.bind_eq_some_iff.mp e
  obtain ⟨⟨r, δ⟩, e1, e⟩ := e
  split at e
  · rename_i o' γ3 e3
    cases e
    cases e3
    have hl : ts.length = vs.length := by
      unfold callF at e1
      obtain ⟨q, e4, _⟩ := Option.bind_eq_some_iff.mp e1
      have h1 := takeArgs_len e4
      have h2 := hb.len
      simp at h1
      omega
    obtain ⟨L1, w1, s1⟩ := w.layO (C := C) (by simpa using hl) hp hd hne
    refine call_ok (bs := some 0 :: bs.map (Option.map (· + 1))) (ts := .em :: ts) (vs := .ref p :: vs) (σ := some (.ref p) :: σ) (γ := .obj C [] [] :: γ) ⟨.em _ w1.env, w1.nd, w1.fr, w1.sub⟩ ⟨_, vs, rfl, rfl, hb.up⟩ e1 fun v I2 H2 L2 w2 s2 => ?_
    obtain ⟨L3, w3, s3, hv⟩ := w2.tail
    obtain ⟨rfl, v', hv1, hv2⟩ := hv _ rfl
    cases hv1
    cases hv2
    exact ⟨rfl, k I2 H2 _ w3 ((s1.trans s2).trans s3)⟩
  · cases e
/-! rows of arguments -/
def tList (l : List TE) : TA := l.foldr tCons tNil
theorem tList_app : ∀ {l1 l2 : List TE} {σ : Sg} {H : Hp} {Q : List V → List V → Hp → Prop}, (tList l1 σ H fun vs H1 => tList l2 σ H1 fun zs H2 => Q vs zs H2) = tList (l1 ++ l2) σ H (fun ws H2 => Q (ws.take l1.length) (ws.drop l1.length) H2)
  | [], l2, σ, H, Q => rfl
  | a :: l1, l2, σ, H, Q => by
    show a σ H (fun v H1 => tList l1 σ H1 fun vs H1 => tList l2 σ H1 fun zs H2 => Q (v :: vs) zs H2) = a σ H (fun v H1 => tList (l1 ++ l2) σ H1 fun ws H2 => Q ((v :: ws).take (l1.length + 1)) ((v :: ws).drop (l1.length + 1)) H2)
    congr 1
    funext v H1
    exact tList_app (l1 := l1) (Q := fun vs zs H2 => Q (v :: vs) zs H2)
/-- arguments and defaults, woven -/
def weave {α β : Type} (f : β → α) : List (Option β) → List α → List α
  | [], _ => []
  | some b :: P, xs => f b :: weave f P xs
  | none :: P, x :: xs => x :: weave f P xs
  | none :: _, [] => []
def holes {β : Type} : List (Option β) → Nat
  | [] => 0
  | some _ :: P => holes P
  | none :: P => holes P + 1
theorem Bor.weave : ∀ {P : List (Option (V × D))} {bs : List (Option Nat)} {vs : List V}, Bor σ bs vs → bs.length = holes P → Bor σ (FD.weave (fun _ => none) P bs) (FD.weave (·.1) P vs)
  | [], bs, vs, h, e => rfl
  | some b :: P, bs, vs, h, e => ⟨_, _, rfl, Bor.weave h e⟩
  | none :: P, [], vs, h, e => by simp [holes] at e
  | none :: P, none :: bs, _, ⟨v, ws, rfl, r⟩, e => ⟨v, _, rfl, Bor.weave r (by simpa [holes] using e)⟩
  | none :: P, some i :: bs, _, ⟨v, ws, rfl, h2, r⟩, e => ⟨v, _, rfl, h2, Bor.weave r (by simpa [holes] using e)⟩
theorem EnvT.weave : ∀ {P : List (Option (V × D))} {ts : List T} {vs : List V} {L : List Addr}, (∀ q, some q ∈ P → Is K I q.1 q.2) → ts.length = holes P → vs.length = holes P → EnvT K I H (ts ++ γ) (vs.map some ++ σ) L → EnvT K I H (FD.weave (fun q => .d q.2) P ts ++ γ) ((FD.weave (·.1) P vs).map some ++ σ) L
  | [], [], [], L, _, _, _, h => h
  | [], _ :: _, _, _, _, e, _, _ => by simp [holes] at e
  | [], [], _ :: _, _, _, _, e, _ => by simp [holes] at e
  | some b :: P, ts, vs, L, hP, e1, e2, h => .cons (L1 := []) (.d (hP b (by simp))) (EnvT.weave (fun q h => hP q (by simp [h])) e1 e2 h)
  | none :: P, [], _, _, _, e, _, _ => by simp [holes] at e
  | none :: P, _ :: _, [], _, _, _, e, _ => by simp [holes] at e
  | none :: P, t :: ts, v :: vs, L, hP, e1, e2, h => by
    have e1' : ts.length = holes P := by simpa [holes] using e1
    have e2' : vs.length = holes P := by simpa [holes] using e2
    cases h with
    | em _ h => exact .em _ (EnvT.weave (fun q h => hP q (by simp [h])) e1' e2' h)
    | cons h1 h2 => exact .cons h1 (EnvT.weave (fun q h => hP q (by simp [h])) e1' e2' h2)
theorem weave_map {α β γ : Type} {f : β → α} {h : γ → β} : ∀ {P : List (Option γ)} {xs : List α}, weave f (P.map (Option.map h)) xs = weave (fun q => f (h q)) P xs
  | [], _ => rfl
  | some b :: P, xs => by simp [weave, weave_map (P := P)]
  | none :: P, [] => rfl
  | none :: P, x :: xs => by simp [weave, weave_map (P := P)]
theorem holes_map {β γ : Type} {h : γ → β} : ∀ {P : List (Option γ)}, holes (P.map (Option.map h)) = holes P
  | [] => rfl
  | some b :: P => by simp [holes, holes_map (P := P)]
  | none :: P => by simp [holes, holes_map (P := P)]
/-- C(a, .., k = b, ..) -/
def eMake (C : Addr) (g : FN) (P : List (Option D)) (bs : List (Option Nat)) (a : List T → Option (List T × List T)) : List T → Option (T × List T) := fun γ => (a γ).bind fun q => if bs.length = holes P ∧ q.1.length = holes P then makeF C g (weave (fun _ => none) P bs) (weave (fun x => .d x) P q.1) q.2 else none
theorem ef_makeK {g : FN} {P : List (Option (V × D))} {bs : List (Option Nat)} {a : List T → Option (List T × List T)} {l1 l2 : List TE} {n m : Nat} {gV : List V → List V → List V} {E : XK} (hP : ∀ I q, some q ∈ P → Is K I q.1 q.2) (ha : EfA K (tList (l1 ++ l2)) bs a) (hn : l1.length = n) (hm : l2.length = m) (hh : n + m = holes P)
    (hg : ∀ x vs zs, vs.length = n → zs.length = m → gV (x :: vs) zs = x :: weave (·.1) P (vs ++ zs)) : Ef K (tMakeK C n m (spF K g) gV E (tList l1) (tList l2)) (eMake C g (P.map (Option.map (·.2))) bs a) := fun γ t γ' e σ I H L w Q k => by
  unfold eMake at e
  rw [holes_map, weave_map] at e
  replace e := Option.bind_eq_some_iff.mp e
  obtain ⟨⟨ts, γ1⟩, e1, e⟩ := e
  split at e
  · rename_i hl
    show tList l1 σ H fun vs H1 => tList l2 σ H1 fun zs H2 => _
    rw [tList_app]
    refine ha γ ts γ1 e1 σ I H L w _ fun ws I1 H1 L1 w1 s1 hb => ?_
    have hw : ws.length = holes P := hb.len.trans hl.1
    have l1' : (ws.take l1.length).length = n := by simp; omega
    have l2' : (ws.drop l1.length).length = m := by simp; omega
    refine ⟨l1', l2', fun p dx hp hd hne => ?_⟩
    rw [hg _ _ _ l1' l2', List.take_append_drop]
    rw [weave_map] at e
    exact make_ok (ts := weave (fun p => .d p.2) P ts) ⟨EnvT.weave (hP I1) hl.2 hw w1.env, w1.nd, w1.fr, w1.sub⟩ (hb.weave hl.1) e hp hd hne fun I2 H2 L2 w2 s2 => k _ I2 H2 L2 w2 (s1.trans s2)
  · cases e
theorem ef_makeR {g : FN} {bs : List (Option Nat)} {a : List T → Option (List T × List T)} {ta : TA} {E : XK} (ha : EfA K ta bs a) : Ef K (StX.tMakeR C (spF K g) E ta) (fun γ => (a γ).bind fun q => makeF C g bs q.1 q.2) := fun γ t γ' e σ I H L w Q k => by
  replace e := Option.bind_eq_some_iff.mp e
  obtain ⟨⟨ts, γ1⟩, e1, e⟩ := e
  refine ha γ ts γ1 e1 σ I H L w _ fun ws I1 H1 L1 w1 s1 hb p dx hp hd hne => ?_
  exact make_ok (ts := ts) w1 hb e hp hd hne fun I2 H2 L2 w2 s2 => k _ I2 H2 L2 w2 (s1.trans s2)
/-! fields written -/
def putTs (f : Str) (t : T) : List Str → List T → List T
  | n :: ns, u :: us => if f = n then t :: us else u :: putTs f t ns us
  | _, _ => [t]
def putN (f : Str) : List Str → List Str
  | [] => [f]
  | n :: ns => if f = n then n :: ns else n :: putN f ns
theorem putF_names {f : Str} {y : V} : ∀ {fs : List (Str × V)}, (putF f y fs).map (·.1) = putN f (fs.map (·.1))
  | [] => by simp [putF, putN]
  | (n, u) :: fs => by
    by_cases h : f = n
    · subst h
      simp [putF, putN]
    · have h' : ¬n = f := fun e => h e.symm
      simp [putF, putN, h, h', putF_names (fs := fs)]
theorem OwA.put {f : Str} {y : V} {L1 : List Addr} (hy : Ow K I H y t L1) : ∀ {fs : List (Str × V)} {us : List T} {Lf : List Addr}, OwA K I H (fs.map (·.2)) us Lf → (Lf ++ L1).Nodup → ∃ L', L'.Nodup ∧ (∀ a ∈ L', a ∈ Lf ++ L1) ∧ OwA K I H ((putF f y fs).map (·.2)) (putTs f t (fs.map (·.1)) us) L'
  | [], us, Lf, h, nd => by
    cases h
    refine ⟨L1 ++ [], by simpa using nd, fun a h => by simpa using h, ?_⟩
    simp only [putF, putTs, List.map_cons, List.map_nil]
    exact .cons hy .nil
  | (n, u) :: fs, us, Lf, h, nd => by
    cases h with
    | @cons _ _ _ us' M1 M2 h1 h2 =>
      by_cases e : f = n
      · subst e
        refine ⟨L1 ++ M2, ?_, fun a h => ?_, ?_⟩
        · have := List.nodup_append.mp nd
          have n2 := List.nodup_append.mp this.1
          exact List.nodup_append.mpr ⟨this.2.1, n2.2.1, fun a h b h2 e => this.2.2 b (by simp [h2]) a h e.symm⟩
        · simp at h ⊢
          rcases h with h | h <;> simp [h]
        · simp only [putF, putTs, List.map_cons, if_pos]
          simpa [putF] using OwA.cons hy h2
      · have nd2 : (M2 ++ L1).Nodup := by
          have := List.nodup_append.mp nd
          have n2 := List.nodup_append.mp this.1
          exact List.nodup_append.mpr ⟨n2.2.1, this.2.1, fun a h b h2 e => this.2.2 a (by simp [h]) b h2 e⟩
        obtain ⟨L', g1, g2, g3⟩ := OwA.put (f := f) hy h2 nd2
        have e' : ¬n = f := fun z => e z.symm
        refine ⟨M1 ++ L', ?_, fun a h => ?_, ?_⟩
        · have := List.nodup_append.mp nd
          have n2 := List.nodup_append.mp this.1
          refine List.nodup_append.mpr ⟨n2.1, g1, fun a h b h2 e => ?_⟩
          subst e
          have := g2 a h2
          simp at this
          rcases this with z | z
          · exact n2.2.2 a h a z rfl
          · exact (List.nodup_append.mp nd).2.2 a (by simp [h]) a z rfl
        · simp at h ⊢
          rcases h with h | h
          · simp [h]
          · have := g2 a h
            simp at this
            rcases this with z | z <;> simp [z]
        · have := OwA.cons h1 g3
          simpa [putF, putTs, e, e'] using this
/-- self.f = e, self in a slot -/
def sFldO (C : Addr) (i : Nat) (f : Str) (g : List T → Option (T × List T)) : List T → Option O := fun γ => (g γ).bind fun q => match q.2[i]? with
  | some (.obj C' ns ts) => if C' = C ∧ ns.length < 1000 then some (.nx (q.2.set i (.obj C' (putN f ns) (putTs f q.1 ns ts)))) else none
  | _ => none
theorem put_nodup {L1 M1 Lf M2 L' : List Addr} {p dx : Addr} (nd : (L1 ++ (M1 ++ ((p :: dx :: Lf) ++ M2))).Nodup) (g1 : L'.Nodup) (g2 : ∀ a ∈ L', a ∈ Lf ++ L1) : (M1 ++ ((p :: dx :: L') ++ M2)).Nodup := by
  simp only [List.nodup_append, List.nodup_cons, List.mem_append, List.mem_cons, List.cons_append] at *
  grind
theorem rs_fldO {i : Nat} {f : Str} {g : List T → Option (T × List T)} (c : Cls K C) (hf : NoAttr K C f) (hg : Ef K te g) : RunS K wr W (sFld K (tVar i) te f) (sFldO C i f g) := fun γ o e σ I H L w Dn q => by
  unfold sFldO at e
  replace e := Option.bind_eq_some_iff.mp e
  obtain ⟨⟨t, γ1⟩, e1, e⟩ := e
  dsimp only at e
  split at e
  · rename_i C' ns us h0
    split at e
    · rename_i hc
      obtain ⟨rfl, hz⟩ := hc
      cases e
      refine hg γ t γ1 e1 σ I H L w _ fun y I1 H1 L0 w1 s1 => ?_
      have hb : ∃ L1 L2, L0 = L1 ++ L2 ∧ Ow K I1 H1 y t L1 ∧ EnvT K I1 H1 γ1 σ L2 := by
        have e2 := w1.env
        cases e2 with
        | em _ e2 => exact ⟨[], _, rfl, .em _, e2⟩
        | cons h1 h2 => exact ⟨_, _, rfl, h1, h2⟩
      obtain ⟨L1, L2, rfl, hy, eΓ⟩ := hb
      obtain ⟨v0, hσ, M1, Mi, M2, rfl, ow, hk2⟩ := eΓ.get h0 (fun z => nomatch z)
      cases ow with
      | @obj p dx fs _ _ _ Lf hne h3 h4 h5 h6 =>
        have nd := w1.nd
        have ndf : (Lf ++ L1).Nodup := by
          simp only [List.nodup_append, List.nodup_cons, List.mem_append, List.mem_cons, List.cons_append] at nd ⊢
          grind
        obtain ⟨L', g1, g2, g3⟩ := OwA.put (f := f) hy h6 ndf
        have pL' : p ∉ L' := fun h => by
          have := g2 p h
          simp only [List.nodup_append, List.nodup_cons, List.mem_append, List.mem_cons, List.cons_append] at nd this
          grind
        have pM : p ∉ M1 ++ M2 := fun h => by
          simp only [List.nodup_append, List.nodup_cons, List.mem_append, List.mem_cons, List.cons_append] at nd h
          grind
        refine ⟨_, hσ, p, C', dx, _, rfl, h3, c, hf, by rw [h5] at hz; simpa using hz, ?_⟩
        have ow2 : Ow K I1 (upd H1 p (.ins C' dx (putF f y fs))) (.ref p) (.obj C' (putN f ns) (putTs f t ns us)) (p :: dx :: L') := by
          subst h5
          exact .obj hne upd_same (by rw [upd_ne (Ne.symm hne)]; exact h4) putF_names.symm (g3.keep (Ex.refl _) fun a h => upd_ne fun e => pL' (e ▸ h))
        have en := hk2 I1 (upd H1 p (.ins C' dx (putF f y fs))) _ _ _ (Ex.refl _) (fun a h => upd_ne fun e => pM (e ▸ h)) ow2
        rw [FD.set_self hσ] at en
        have fp : I1 p = none := w1.fr p (by simp)
        refine q _ I1 _ (M1 ++ ((p :: dx :: L') ++ M2)) ⟨en, put_nodup nd g1 g2, fun a h => w1.fr a ?_, fun b o e => ?_⟩ (s1.trans ⟨Ex.refl _, fun b o e hb => ?_, fun b hb => .inl ?_, fun b o e => .inl e⟩) (.refl σ)
        · simp at h ⊢
          rcases h with h | h | h | h | h
          · simp [h]
          · simp [h]
          · simp [h]
          · have := g2 a h
            simp at this
            rcases this with z | z <;> simp [z]
          · simp [h]
        · rw [upd_ne (ne_of_none e fp)]
          exact w1.sub b o e
        · rw [upd_ne (fun z => hb (by simp [z]))]; exact e
        · simp at hb ⊢
          rcases hb with h | h | h | h | h
          · simp [h]
          · simp [h]
          · simp [h]
          · have := g2 b h
            simp at this
            rcases this with z | z <;> simp [z]
          · simp [h]
    · cases e
  · cases e
end
end FD

/-! FSX: an own error's __init__ that calls super().__init__(text). -/
namespace FD
open PySem PySem.Spec PyProof.Rows L2
abbrev supSt (m : String) (j : Nat) (p0 p1 p2 p3 p4 p5 : Pos) : Stmt := .Expr (.Call (.Attribute (.Call (.Name "super" p0) [] [] p1) "__init__" p2) [.Constant (.str m) j p3] [] p4) p5
abbrev supNF (name qual : Str) (params : Arguments) (body : List Stmt) (scope : Scope) (cc cda : Addr) : NdefX.NF := ⟨name, qual, params, body, scope, [("__class__", cc)], cda⟩
section
variable {P : Program} {w : PySem.World} {K : PySem.W.Frag} {mg : Str → Option Value} {base : Heap} {CX : CXT}
theorem sup_ok {name qual : Str} {params : Arguments} {scope : Scope} {dV kV doc pm ct oc ccl cl : Value} {an od cdd cld : Option Addr} {osl ccs csl : Array (Option Value)} {vsf : Array Value} {file : Str} {tf : Tok} {cda cc D f : Addr} {cd : ClassData} {ar : Arg}
    {p0 p1 p2 p3 p4 p5 : Pos} {rest : List Stmt} {m : String} {j : Nat} {N ps : List Str} {k : Nat} {sp : Sp}
    (lk : List.lookup f K = some { cls := oc, dict := od, data := Data.func (PySem.W.ksFn name qual params (supSt m j p0 p1 p2 p3 p4 p5 :: rest) scope dV kV doc pm an (.ref cda) ct cc), slots := osl })
    (hcd : PySem.W.codeIn K (.ref cda) qual = true)
    (hcda : List.lookup cda K = some { cls := ccl, dict := cdd, data := .fields vsf, slots := ccs })
    (hvs : vsf[2]? = some (.str file tf)) (hfile : (P.main.file == file) = true)
    (hmain : (List.lookup ("super" : Str) P.main.scope.names).isSome = false)
    (hcc : List.lookup cc K = some { cls := cl, dict := cld, data := .cell (some (.ref D)), slots := csl })
    (hcl : PySem.W.clsIn K D = some cd) (hD : OexC K D)
    (hself : (params.posonlyargs ++ params.args).head? = some ar) (hps : ps.head? = some ar.arg)
    (S : NdefX.NScope N ps ["__class__"] scope)
    (hks : List.lookup ("super" : Str) scope.names = some .globalImplicit)
    (hmg : mg "super" = none)
    (hst : PySem.W.nsIn K cStatics "thirdparty.any" = some none)
    (hal : PySem.W.ks_superIn K D D "__init__" = some (some (.builtin "ValueError.__init__")))
    (hsubD : PySem.W.subIn K (.ref D) (.ref D) = some true) (hsubV : PySem.W.subIn K (.ref D) (.type "ValueError") = some true)
    (hev : ∀ env : Env, ∃ pl : Sem Bool, eval (.Call (.Attribute (.Call (.Name "super" p0) [] [] p1) "__init__" p2) [.Constant (.str m) j p3] [] p4) env = do
            let ov ← attributeBase (.Call (.Name "super" p0) [] [] p1) "__init__" env (eval (.Call (.Name "super" p0) [] [] p1) env)
            standAt p2.atName
            let __x ← holding [ov] (getMethod ov "__init__" pl)
            match __x with
              | (f, first) => callWith p4 f first (backTo p4 (starEach [.Constant (.str m) j p3] env)) [])
    (len : ∀ vs H Q E, sp vs H Q E → vs.length = ps.length)
    (hbody : ∀ (A : Around) (outer : List Env) (s : Shared) (H : Hp) (vs : List V) (Q : VK) (E : XK), Room k (A.deeper (NdefX.envF (supNF name qual params (supSt m j p0 p1 p2 p3 p4 p5 :: rest) scope cc cda) f s.heap.objs.size)) → sp vs H Q E →
      ∃ a ws t, vs = .ref a :: ws ∧ H a = some (exo a D none) ∧ PSs (NdefX.ncx CX P w K mg base N (supNF name qual params (supSt m j p0 p1 p2 p3 p4 p5 :: rest) scope cc cda) f A outer s H E) rest t ∧ t { nx := fun _ H' => Q .non H', rt := Q } (NdefX.startF N vs [some (.ref D)]) H) :
    FnOk P w K mg base CX (k + 1) f (PySem.W.ksFn name qual params (supSt m j p0 p1 p2 p3 p4 p5 :: rest) scope dV kV doc pm an (.ref cda) ct cc) ps sp where
  len := len
  run := fun A outer s H args us vs Q E hr env0 hbind hv hsp => by
    let F := supNF name qual params (supSt m j p0 p1 p2 p3 p4 p5 :: rest) scope cc cda
    have keepB : ∀ b o, base.get? b = some o → s.heap.get? b = some o := fun b o e => (env0.bs b o e).1
    have X0 : K.In s.heap := env0.mod.kin.keeps keepB
    have hlen := len vs H Q E hsp
    have hccB : base.get? cc = _ := env0.mod.kin cc _ hcc
    have one : ∀ {y : Str} {c : Addr}, List.lookup y F.cl = some c → y = "__class__" ∧ c = cc := fun {y c} e => by
      show _
      have e' : List.lookup y [(("__class__" : Str), cc)] = some c := e
      rw [List.lookup_cons] at e'
      split at e'
      · rename_i hb
        cases e'
        exact ⟨eq_of_beq hb, rfl⟩
      · cases e'
    have hcell : NdefX.CellsAt F.cl ["__class__"] [some (.ref D)] s.heap H := by
      refine ⟨rfl, fun y c e => ?_, fun x y c e1 e2 => (one e1).1.trans (one e2).1.symm, fun i y e => ?_⟩
      · obtain ⟨rfl, rfl⟩ := one e
        exact ⟨(env0.bs _ _ hccB).2, _, _, keepB _ _ hccB, rfl⟩
      · cases i with
        | zero =>
          cases e
          refine ⟨cc, rfl, fun v e => ?_⟩
          cases e
          exact ⟨.ref D, rfl, _, keepB _ _ hccB, rfl⟩
        | succ i => simp at e
    refine ks_codeAny_call_defAt hr.depth (X0 f _ lk) rfl (env0.mod.nolimit.keeps keepB) (PySem.W.codeRec_of X0 hcd) rfl hbind S.nocell (fun x hx => S.par _ (List.of_mem_zip hx).1) (fun h₁ hns hkeep => ?_) S.co S.gen S.kind
    have inv := NdefX.inv_startN (CX := CX) (F := F) (f := f) (E := E) (tk := s.toks + (ps.zip us).length) S hr.hd env0 hlen hv hcell hns hkeep
    obtain ⟨a, ws, t, rfl, hHa, hP, ht⟩ := hbody A outer s H vs Q E (hr.deeper _) hsp
    have X1 : K.In h₁ := X0.keeps hkeep
    have keep1 : ∀ b o, base.get? b = some o → h₁.get? b = some o := fun b o e => hkeep b o (keepB b o e)
    have hself1 : ∃ ps', ps = ar.arg :: ps' := by
      cases ps with
      | nil => cases hps
      | cons q ps' => cases hps; exact ⟨ps', rfl⟩
    obtain ⟨ps', rfl⟩ := hself1
    have hN0 : N[0]? = some ar.arg := by
      have := S.pre
      cases N with
      | nil => simp at this
      | cons n N => simp at this; simp [this.1]
    have hksl : List.lookup ar.arg scope.names = some .local := S.par _ (by simp)
    obtain ⟨mm, hns1, hloc⟩ := inv.loc
    obtain ⟨u0, hu0, hlook⟩ := hloc 0 ar.arg (.ref a) hN0 rfl (.inl hksl)
    have hu0' : u0 = .ref a := hu0
    subst hu0'
    have hm0 : mm ar.arg = some (.ref a) := by
      rcases hlook with ⟨_, h⟩ | ⟨h | h, _⟩
      · exact h
      · have h' : List.lookup ar.arg scope.names = some .cell := h
        rw [hksl] at h'; cases h'
      · have h' : List.lookup ar.arg scope.names = some .free := h
        rw [hksl] at h'; cases h'
    obtain ⟨t1, hxo⟩ := exo_at inv.hok hHa
    have hxD : h₁.get? a = some (HandSPX.excO D t1) := hxo
    have hDo : ∃ oD, h₁.get? D = some oD ∧ oD.data = .cls cd := by
      unfold PySem.W.clsIn at hcl
      split at hcl
      · rename_i h; cases hcl; exact ⟨_, X1 _ _ h, rfl⟩
      · cases hcl
    obtain ⟨oD, hDo, hDd⟩ := hDo
    obtain ⟨mb, hblt, hboot⟩ := env0.mod.blt
    refine ks_wpAt_execs_cons ?_
    refine ks_wpAt_Expr_any ?_ inv.quiet (by rfl)
    obtain ⟨pl, hpl⟩ := hev (callEnv (PySem.W.ksFn name qual params (supSt m j p0 p1 p2 p3 p4 p5 :: rest) scope dV kV doc pm an (.ref cda) ct cc) s.heap.objs.size f)
    refine ks_wpAt_MethodCall (pl := pl) ?_ hpl
    refine ks_wpAt_super_base (file := file) (tf := tf) (fd := PySem.W.ksFn name qual params (supSt m j p0 p1 p2 p3 p4 p5 :: rest) scope dV kV doc pm an (.ref cda) ct cc) hks (S.frk _ (by simp)) (by decide) rfl (X1 f _ lk) rfl hself rfl (X1 cda _ hcda) rfl hvs hfile hmain ?_
    refine PySem.W.ks_loadName_global S.kind hks ?_
    refine Calls.loadGlobal_builtin (env0.mod.glob.keeps keep1) hmg (hblt.keeps keep1) ((hboot _ (by decide)).trans Boot.super) ⟨rfl, ?_⟩
    refine wpAny_loadName_free (c := cc) (v := .ref D) S.kind (S.frk _ (by simp)) rfl ⟨_, keep1 _ _ hccB, rfl⟩ ?_
    refine wpAny_loadName_local S.kind hksl hns1 hm0 ?_
    refine ks_wpAny_isType_cls hDo hDd ⟨rfl, ?_⟩
    refine ks_wpAny_call_super (C := D) hDo hDd hxD rfl (fun c h => by cases h) (PySem.W.looks_subIn X1 hsubD) fun h2 hso keep2 => ?_
    have inv2 := inv.kept (h' := h2) (t' := s.toks + ((ar.arg :: ps').zip us).length) keep2
    have X2 : K.In h2 := X1.keeps keep2
    have hm : ∃ l0, PySem.W.Looks (model P w) h2 (mroOf (.ref D)) l0 ∧ PySem.W.alongIn K "__init__" (List.drop 1 (List.dropWhile (fun x => x != Value.ref D) l0)) = some (some (.builtin "ValueError.__init__")) := by
      unfold PySem.W.ks_superIn at hal
      rw [hcl] at hal
      exact ⟨cd.mro, (PySem.W.looks_clsIn X2 hcl).andThen (fun A Q E s _ h => wpAny_pure h), hal⟩
    obtain ⟨l0, hmro, hal⟩ := hm
    have hinst : PySem.W.InstAt h2 a (HandSPX.excO D t1) D none := ⟨keep2 _ _ hxD, rfl, rfl, trivial⟩
    have hne : a ≠ D := PySem.W.ks_ne X2 hinst hcl
    refine PySem.W.kxs_getMethod PySem.W.kxs_ValueError hso (PySem.W.looks_opaque X2 hst) hmro rfl X2 hal (hinst.type.andThen (PySem.W.looks_subIn X2 hsubV)) hne (by decide) ?_
    have fr2 := inv2.fresh
    have fp2 := inv2.fpOk (H' := H) (Nat.le_refl _) fr2
    have hu : (h2.push (PySem.W.kxs_mw "ValueError.__init__" a)).get? h2.objs.size = some (PySem.W.kxs_mw "ValueError.__init__" a) := PySem.Heap.get?_push_at rfl rfl
    have inv3 := (inv2.kept (h' := h2.push (PySem.W.kxs_mw "ValueError.__init__" a)) (t' := s.toks + ((ar.arg :: ps').zip us).length + 1) (fun b o e => PySem.Heap.get?_push_of_some _ e)).pins_of (pins' := [(h2.objs.size, PySem.W.kxs_mw "ValueError.__init__" a)]) (fun p hp => by
      simp at hp
      subst hp
      exact ⟨hu, fr2, fp2.2.1, fp2.2.2.1, fun v h => by cases h⟩)
    refine PySem.W.kxs_callWith1 (h₀ := h2) (L := h2.objs.size + 1) (x := a) (u := h2.objs.size) (i := "ValueError.__init__") (news := [(h2.objs.size, PySem.W.kxs_mw "ValueError.__init__" a)]) (fun p hp => by
      simp at hp
      subst hp
      exact ⟨hu, by simp, by
        cases h : h2.get? h2.objs.size with
        | none => rfl
        | some o => exact absurd (PySem.Heap.lt_size h) (Nat.lt_irrefl _)⟩) (by simp) ?_
    refine wpAny_mono ((pa_cons (pe_str (x := m) (j := j) (pos := p3)) pa_nil).run p4 _ _ _ H (fun vs H' => vs = [.str m] ∧ H' = H) inv3 ⟨rfl, rfl⟩) (fun us' s4 h4 => ?_) (fun e s' h => h)
    obtain ⟨vs4, H4, inv4, rv4, rfl, rfl⟩ := h4
    have hu4 := (inv4.pin _ (List.mem_append_right _ (List.mem_singleton.mpr rfl))).1
    refine ⟨hu4, ?_⟩
    obtain ⟨h4, g4, d4, t4, o4⟩ := s4
    obtain ⟨nm, qn, Nn, bs, bm, sn, sub, ab, col, dd, k0, k1, k2, k3, k5, hDC, hVE⟩ := hD.cls
    have hDC4 := inv4.kIn D _ hDC
    obtain ⟨t2, hx4⟩ := exo_at inv4.hok hHa
    cases rv4 with
    | cons r1 r2 =>
    cases r2 with
    | nil =>
    rename_i u1
    refine wpAny_call (codeAny_of_tree (wpAny_bind (wpAny_load hu4 ?_)))
    refine PySem.W.KFB.if_so rfl ?_
    refine PySem.W.KFB.if_so rfl ?_
    refine wpAny_bind (PySem.W.check_bound_init PySem.F.excBase_ValueError.toExcCallFacts hDC4 hx4 rfl ?_)
    refine wpAny_pure ⟨plainId_quiet PySem.F.excBase_ValueError.init.plain _, ?_⟩
    refine codeAny_builtin PySem.F.excBase_ValueError.initEntry ?_
    refine PySem.W.exc_init_tree (t0 := t2) (cls := .ref D) (dv := none) hx4 (by show 1 ≤ sizeLine; decide) fun h5 k5 x5 _ => ?_
    have inv5 := inv4.write (h' := h5) (x := a) (e := a) (o := exo a D none) (t' := t4) (by rw [hHa]; trivial) (.inl rfl) (fun b u hb e => k5 b u hb e) ⟨_, x5⟩ (exo_ok x5)
    have hupd : upd H4 a (exo a D none) = H4 := by
      funext b
      by_cases hb : b = a
      · subst hb; rw [upd_same, hHa]
      · rw [upd_ne hb]
    rw [hupd] at inv5
    have inv6 := inv5.pins_of (pins' := []) (fun p hp => by simp at hp)
    refine PySem.wpAt_of_wpAny ?_
    refine wpAny_mono (hP.run [] _ _ _ _ inv6 ht) (fun fl s' h => ?_) (fun e s' h => h)
    cases fl with
    | next => obtain ⟨σ', H', i, q⟩ := h; exact ⟨.non, H', i.os, i.bare, i.base, i.hok, rfl, q⟩
    | ret u => obtain ⟨v, σ', H', i, r, q⟩ := h; exact ⟨v, H', i.os, i.bare, i.base, i.hok, r, q⟩
    | brk => obtain ⟨σ', H', i, q⟩ := h; exact q.elim
    | cont => obtain ⟨σ', H', i, q⟩ := h; exact q.elim
end
end FD

/-! FSE: raise, try, calls that may raise. -/
namespace FD
open PySem PySem.Spec PyProof.Rows L2
/-! makers and calls whose error may speak of the slots -/
theorem run_makeKS {X : Cx} {CX : CXT} {k n : Nat} {f C : Addr} {fd : FuncData} {ps ks : List Str} {sp : Sp} {E : XK} {g : List Value → List Value → List Value} {gV : List V → List V → List V} {pins : List (Addr × Obj)} {σ : L2.St} {H : Hp} {s : Shared} {Q : VK} {us ws : List Value} {vs zs : List V}
    (M : Mk X.K C f) (F : FnOk X.prog X.w X.K X.mg X.base CX k f fd ps sp) (hr : Room (k + 1) X.A) (hb : KBn X.K fd ps (n + 1) ks g gV) (hx : PassesAt CX X σ E) (I : L2.Inv X pins σ H s) (r : Vals vs us) (rz : Vals zs ws) (l1 : vs.length = n) (l2 : zs.length = ks.length)
    (h : ∀ (x dx : Addr), H x = none → H dx = none → dx ≠ x → sp (gV (V.ref x :: vs) zs) (upd (upd H dx (HO.own x)) x (HO.ins C dx [])) (fun v H2 => v = V.non ∧ Q (V.ref x) H2) E) :
    wpAny (model X.prog X.w) X.A (call (Value.ref C) us (ks.zip ws)) (EP X pins σ Q) X.xe s := by
  have hq := h (s.heap.objs.size + 1) s.heap.objs.size (HOk.fresh I.hok (Nat.le_succ _)) (HOk.fresh I.hok (Nat.le_refl _)) (Nat.ne_of_lt (Nat.lt_succ_self _))
  have I2 := Inv.made (C := C) I
  have r1 : Vals (V.ref (s.heap.objs.size + 1) :: vs) (Value.ref (s.heap.objs.size + 1) :: us) := Paired.cons rfl r
  have r2 := hb.rel r1 rz
  have n1 : (Value.ref (s.heap.objs.size + 1) :: us).length = n + 1 := by simp [← Vals.length r, l1]
  refine wpAny_call (make_map (Inv.kIn I) M.makes M.init (beq_iff_eq.mp M.fn) (codeAny_mono (F.run _ X.stack _ _ { pos := Value.ref (s.heap.objs.size + 1) :: us, kw := ks.zip ws } (g (Value.ref (s.heap.objs.size + 1) :: us) ws) (gV (V.ref (s.heap.objs.size + 1) :: vs) zs) (fun v H2 => v = V.non ∧ Q (V.ref (s.heap.objs.size + 1)) H2) E (Room.make hr C us (ks.zip ws)) (Env0.make (Inv.env0 I2) C us (ks.zip ws)) (hb.to _ _ _ (Inv.kIn I2) n1 (Eq.trans (Eq.symm (Vals.length rz)) l2)) r2 hq) fun r s' hq' => ?_))
  cases r with
  | error e => exact hx pins _ _ e s' I2 hq'
  | ok fl =>
    cases fl with
    | ret u =>
      obtain ⟨v, H', I3, rv, rfl, q3⟩ := Inv.after I2 hq'
      exact ⟨rv, .ref (s.heap.objs.size + 1), H', I3, rfl, q3⟩
    | next => exact hq'.elim
    | brk => exact hq'.elim
    | cont => exact hq'.elim
def tMakeKS (C : Addr) (n m : Nat) (sp : Sp) (gV : List V → List V → List V) (E : L2.St → XK) (t tk : TA) : TE := fun σ H Q => tMakeK C n m sp gV (E σ) t tk σ H Q
theorem pe_makeKS {X : Cx} {CX : CXT} {k n : Nat} {f C : Addr} {fd : FuncData} {ps ks : List Str} {sp : Sp} {E : L2.St → XK} {x : Str} {p pos : Pos} {e : Expr} {es : List Expr} {kws : List Keyword} {t tk : TA} {g : List Value → List Value → List Value} {gV : List V → List V → List V}
    (M : Mk X.K C f) (F : FnOk X.prog X.w X.K X.mg X.base CX k f fd ps sp) (hr : Room (k + 1) X.A) (hg : Gl X x) (hm : X.mg x = some (Value.ref C)) (hb : KBn X.K fd ps (n + 1) ks g gV) (hx : ∀ σ, PassesAt CX X σ (E σ)) (ha : PA X (e :: es) t) (hkw : PK X kws tk)
    (hall : ((backToKw pos (keywordEach kws X.env)).all fun x => x.fst.isSome) = true := by rfl)
    (hks : List.filterMap (fun x => x.fst) (backToKw pos (keywordEach kws X.env)) = ks := by rfl)
    (hdb : (x == ("__debug__" : Str)) = false := by decide)
    (he : starEach (e :: es) X.env = (false, eval e X.env) :: starEach es X.env := by rfl)
    (hpl : (((backTo pos (starEach (e :: es) X.env)).any fun x => x.fst) || (backToKw pos (keywordEach kws X.env)).any fun x => x.fst.isNone) = false := by rfl) :
    PE X (.Call (.Name x p) (e :: es) kws pos) (tMakeKS C n ks.length sp gV E t tk) where
  run := fun pins s σ H Q I h => by
    refine wpAny_Call_Name_kw (ld_glob I hg hm (PySem.W.callWith_KW I.ok.mod.kin M.kp hall (thn (ha.run pos pins s σ H _ I h) fun us s1 hh => ?_) hpl he) hdb)
    obtain ⟨vs, H1, I1, r, q⟩ := hh
    refine thn (hkw.run pos pins s1 σ H1 _ I1 q) fun ws s2 hh => ?_
    obtain ⟨zs, H2, I2, rz, l1, l2, q2⟩ := hh
    refine ⟨Inv.kIn I2, ?_⟩
    rw [hks]
    exact run_makeKS M F hr hb (hx σ) I2 r rz l1 l2 q2
/-! no footprint holds an error's dict -/
mutual
theorem Ow.noxd {K : PySem.W.Frag} {I H : Hp} : ∀ {t : T} {v : V} {L : List Addr}, Ow K I H v t L → ∀ a ∈ L, ∀ kvs, H a ≠ some (.xd kvs)
  | .em, _, _, h, a, ha, kvs => by cases h; simp at ha
  | .d _, _, _, h, a, ha, kvs => by cases h; simp at ha
  | .lst _, _, _, h, a, ha, kvs => by
    cases h with
    | lst h1 h2 => simp at ha; subst ha; rw [h1]; exact fun z => nomatch z
  | .dic ks ts, _, _, h, a, ha, kvs => by
    cases h with
    | dic h1 h2 h3 =>
      rcases List.mem_cons.mp ha with rfl | ha
      · rw [h1]; exact fun z => nomatch z
      · exact OwA.noxd h3 a ha kvs
  | .obj C ns ts, _, _, h, a, ha, kvs => by
    cases h with
    | obj h0 h1 h2 h3 h4 =>
      rcases List.mem_cons.mp ha with rfl | ha
      · rw [h1]; exact fun z => nomatch z
      · rcases List.mem_cons.mp ha with rfl | ha
        · rw [h2]; exact fun z => nomatch z
        · exact OwA.noxd h4 a ha kvs
theorem OwA.noxd {K : PySem.W.Frag} {I H : Hp} : ∀ {ts : List T} {vs : List V} {L : List Addr}, OwA K I H vs ts L → ∀ a ∈ L, ∀ kvs, H a ≠ some (.xd kvs)
  | [], _, _, h, a, ha, kvs => by cases h; simp at ha
  | t :: ts, _, _, h, a, ha, kvs => by
    cases h with
    | cons h1 h2 => exact (List.mem_append.mp ha).elim (fun h => Ow.noxd h1 a h kvs) (fun h => OwA.noxd h2 a h kvs)
end
inductive EO where
  | ok (t : T) (γ : List T) | xc (C : Addr) (fs : List (Str × D)) (γ : List T)
section
variable {K : PySem.W.Frag} {wr : List Nat} {W : WX'} {ta tb tc te to td ty tx : TE} {tt tu : TT} {ts tv : TS} {I I' H H' : Hp} {γ γ' : List T} {σ : Sg} {L : List Addr} {t : T} {v : V} {x : D} {C : Addr} {ns : List Str} {fn : Str}
theorem EnvT.noxd : ∀ {γ : List T} {σ : Sg} {L : List Addr}, EnvT K I H γ σ L → ∀ a ∈ L, ∀ kvs, H a ≠ some (.xd kvs)
  | _, _, _, .nil, _, h, _ => by simp at h
  | _, _, _, .em _ e, a, h, kvs => e.noxd a h kvs
  | _, _, _, .cons p e, a, h, kvs => (List.mem_append.mp h).elim (fun h => p.noxd a h kvs) (fun h => e.noxd a h kvs)
theorem XAt.move {L1 L2 : List Addr} {d : Addr} {fs : List (Str × D)} (x : XAt K I H L1 d fs) (w : WS K γ σ I' H' L2) (s : Step I H L1 I' H' L2) : XAt K I' H' L2 d fs := by
  obtain ⟨kvs, h1, h2, h3, h4⟩ := x
  have h5 := s.keep d _ h1 h2
  refine ⟨kvs, h5, fun h => w.env.noxd d h kvs h5, ?_, h4.mono s.i⟩
  cases e : I' d with
  | none => rfl
  | some o => rcases s.n d o e with z | z | z
              · rw [h3] at z; cases z
              · exact absurd z h2
              · rw [h1] at z; cases z
/-- readings that may end in an error -/
def EfX (K : PySem.W.Frag) (W : WX') (te : TE) (f : List T → Option EO) : Prop := ∀ γ o, f γ = some o → ∀ σ I H L, WS K γ σ I H L → ∀ Q : VK,
  (∀ t γ', o = .ok t γ' → ∀ v I' H' L', WS K (t :: γ') (some v :: σ) I' H' L' → Step I H L I' H' L' → Q v H') →
  (∀ C fs γ', o = .xc C fs γ' → ∀ d I' H' L', WS K γ' σ I' H' L' → Step I H L I' H' L' → XAt K I' H' L' d fs → W (.ref C) (some d) σ H') → te σ H Q
def xOk (f : List T → Option (T × List T)) : List T → Option EO := fun γ => (f γ).map fun q => .ok q.1 q.2
theorem efx_ok {f : List T → Option (T × List T)} (h : Ef K te f) : EfX K W te (xOk f) := fun γ o e σ I H L w Q k1 k2 => by
  unfold xOk at e
  obtain ⟨q, e1, rfl⟩ := Option.map_eq_some_iff.mp e
  exact h γ q.1 q.2 e1 σ I H L w Q (k1 _ _ rfl)
def callX (g : FN) (bs : List (Option Nat)) (ts γ : List T) : Option EO := (takeArgs bs ts γ).bind fun p => match g p.1 with
  | some (.ret r post) => if post.length = p.1.length then (backArgs bs p.1 post p.2).map fun γ2 => .ok r γ2 else none
  | some (.exc C fs post) => if post.length = p.1.length then (backArgs bs p.1 post p.2).map fun γ2 => .xc C fs γ2 else none
  | none => none
theorem callX_ok {g : FN} {bs : List (Option Nat)} {ts : List T} {vs : List V} {o : EO} (w : WS K (ts ++ γ) (vs.map some ++ σ) I H L) (hb : Bor σ bs vs) (e : callX g bs ts γ = some o) {Q : VK} {E : XK}
    (k1 : ∀ r γ2, o = .ok r γ2 → ∀ v I' H' L', WS K (r :: γ2) (some v :: σ) I' H' L' → Step I H L I' H' L' → Q v H')
    (k2 : ∀ C fs γ2, o = .xc C fs γ2 → ∀ d I' H' L', WS K γ2 σ I' H' L' → Step I H L I' H' L' → XAt K I' H' L' d fs → E (.ref C) (some d) H') : spF K g vs H Q E := by
  unfold callX at e
  replace e := Option.bind_eq_some_iff.mp e
  obtain ⟨⟨pre, γ1⟩, e1, e⟩ := e
  obtain ⟨L1, w1, s1, hl, hl2⟩ := take_ok w hb e1
  dsimp only at e
  split at e
  · rename_i r' post hg
    split at e
    · rename_i hp
      obtain ⟨γ3, e3, rfl⟩ := Option.map_eq_some_iff.mp e
      obtain ⟨M1, M2, rfl, wp, join⟩ := w1.apart (by simpa using hl)
      refine ⟨pre, _, I, M1, hg, wp, fun v I' H' L' w' s' => ?_⟩
      obtain ⟨w3, s3⟩ := join w' s'
      obtain ⟨N1, N2, hN, w4, hold⟩ := WS.hold (σ := vs.map some ++ σ) w3
      obtain ⟨L5, w5, s5⟩ := back_ok (pre := pre) w4 hb (by omega) e3
      obtain ⟨w6, s6⟩ := hold w5 s5
      rw [← hN] at s6
      exact k1 _ _ rfl v I' H' _ w6 ((s1.trans s3).trans s6)
    · cases e
  · rename_i C' fs post hg
    split at e
    · rename_i hp
      obtain ⟨γ3, e3, rfl⟩ := Option.map_eq_some_iff.mp e
      obtain ⟨M1, M2, rfl, wp, join⟩ := w1.apart (by simpa using hl)
      refine ⟨pre, _, I, M1, hg, wp, fun d I' H' L' w' s' hx => ?_⟩
      obtain ⟨w3, s3⟩ := join w' s'
      obtain ⟨L5, w5, s5⟩ := back_ok (pre := pre) w3 hb (by omega) e3
      obtain ⟨kvs, x1, x2, x3, x4⟩ := hx
      have hx3 : XAt K I' H' (L' ++ M2) d fs := ⟨kvs, x1, fun h => w3.env.noxd d h kvs x1, x3, x4⟩
      exact k2 _ _ _ rfl d I' H' _ w5 ((s1.trans s3).trans s5) (hx3.move w5 s5)
    · cases e
  · cases e
/-- f(a, ..) that may raise -/
def xCall (g : FN) (bs : List (Option Nat)) (a : List T → Option (List T × List T)) : List T → Option EO := fun γ => (a γ).bind fun q => callX g bs q.1 q.2
theorem efx_call {g : FN} {bs : List (Option Nat)} {a : List T → Option (List T × List T)} {tr : TA} (ha : EfA K tr bs a) : EfX K W (tCallS (spF K g) (WE W) tr) (xCall g bs a) := fun γ o e σ I H L w Q k1 k2 => by
  unfold xCall at e
  replace e := Option.bind_eq_some_iff.mp e
  obtain ⟨⟨ts, γ1⟩, e1, e⟩ := e
  refine ha γ ts γ1 e1 σ I H L w _ fun vs I1 H1 L1 w1 s1 hb => ?_
  exact callX_ok w1 hb e (fun r γ2 h v I' H' L' w' s' => k1 r γ2 h v I' H' L' w' (s1.trans s')) fun C fs γ2 h d I' H' L' w' s' => k2 C fs γ2 h d I' H' L' w' (s1.trans s')
/-- such a call where nothing is raised -/
theorem ef_callS {g : FN} {bs : List (Option Nat)} {a : List T → Option (List T × List T)} {tr : TA} {E : L2.St → XK} (ha : EfA K tr bs a) : Ef K (tCallS (spF K g) E tr) (eCall g bs a) := fun γ t γ' e σ I H L w Q k => by
  unfold eCall at e
  replace e := Option.bind_eq_some_iff.mp e
  obtain ⟨⟨ts, γ1⟩, e1, e⟩ := e
  exact ha γ ts γ1 e1 σ I H L w _ fun vs I1 H1 L1 w1 s1 hb => call_ok w1 hb e fun v I' H' L' w' s' => k v I' H' L' w' (s1.trans s')
theorem pu_callS {g : FN} {a : List T → Option (List D)} {tr : TA} {E : L2.St → XK} (ha : PuA K tr a) : Pu K (tCallS (spF K g) E tr) (pCall g a) := fun γ z e σ I H L w Q k => by
  unfold pCall at e
  replace e := Option.bind_eq_some_iff.mp e
  obtain ⟨xs, e1, e⟩ := e
  split at e
  · rename_i r post hg
    exact ha γ xs e1 σ I H L w _ fun vs I1 H1 n1 s1 hv => spF_pure s1 hv hg e fun v I' H' n s h => k v I' H' (n1.trans n) s h
  · cases e
/-- the heart of a maker that may raise -/
def makeX (C : Addr) (g : FN) (bs : List (Option Nat)) (ts γ : List T) : Option EO := (callX g (some 0 :: bs.map (Option.map (· + 1))) (.em :: ts) (.obj C [] [] :: γ)).bind fun q => match q with
  | .ok (.d .non) (o :: γ') => some (.ok o γ')
  | .xc X fs (_ :: γ') => some (.xc X fs γ')
  | _ => none
theorem callX_len {g : FN} {bs : List (Option Nat)} {ts : List T} {o : EO} (e : callX g bs ts γ = some o) : ts.length = bs.length := by
  unfold callX at e
  obtain ⟨q, e4, _⟩ := Option.bind_eq_some_iff.mp e
  exact takeArgs_len e4
theorem makeX_ok {g : FN} {bs : List (Option Nat)} {ts : List T} {vs : List V} {o : EO} {p dx : Addr} (w : WS K (ts ++ γ) (vs.map some ++ σ) I H L) (hb : Bor σ bs vs) (e : makeX C g bs ts γ = some o) (hp : H p = none) (hd : H dx = none) (hne : dx ≠ p) {Q : VK} {E : XK}
    (k1 : ∀ r γ2, o = .ok r γ2 → ∀ I' H' L', WS K (r :: γ2) (some (.ref p) :: σ) I' H' L' → Step I H L I' H' L' → Q (.ref p) H')
    (k2 : ∀ X fs γ2, o = .xc X fs γ2 → ∀ d I' H' L', WS K γ2 σ I' H' L' → Step I H L I' H' L' → XAt K I' H' L' d fs → E (.ref X) (some d) H') : spF K g (.ref p :: vs) (upd (upd H dx (.own p)) p (.ins C dx [])) (fun v H2 => v = .non ∧ Q (.ref p) H2) E := by
  unfold makeX at e
  replace e := Option.bind_eq_some_iff.mp e
  obtain ⟨q, e1, e⟩ := e
  have hl : ts.length = vs.length := by
    have h1 := callX_len e1
    have h2 := hb.len
    simp at h1
    omega
  obtain ⟨L1, w1, s1⟩ := w.layO (C := C) (by simpa using hl) hp hd hne
  refine callX_ok (bs := some 0 :: bs.map (Option.map (· + 1))) (ts := .em :: ts) (vs := .ref p :: vs) (σ := some (.ref p) :: σ) (γ := .obj C [] [] :: γ) ⟨.em _ w1.env, w1.nd, w1.fr, w1.sub⟩ ⟨_, vs, rfl, rfl, hb.up⟩ e1 (fun r γ2 h v I2 H2 L2 w2 s2 => ?_) (fun X fs γ2 h d I2 H2 L2 w2 s2 hx => ?_)
  · subst h
    split at e
    · rename_i o' γ3 e3
      cases e
      cases e3
      obtain ⟨L3, w3, s3, hv⟩ := w2.tail
      obtain ⟨rfl, v', hv1, hv2⟩ := hv _ rfl
      cases hv1
      cases hv2
      exact ⟨rfl, k1 _ _ rfl I2 H2 _ w3 ((s1.trans s2).trans s3)⟩
    · rename_i e3; cases e3
    · cases e
  · subst h
    split at e
    · rename_i e3; cases e3
    · rename_i X' fs' u γ3 e3
      cases e
      cases e3
      obtain ⟨L3, w3, s3, _⟩ := w2.tail
      exact k2 _ _ _ rfl d I2 H2 _ w3 ((s1.trans s2).trans s3) (hx.move w3 s3)
    · cases e
def xMake (C : Addr) (g : FN) (P : List (Option D)) (bs : List (Option Nat)) (a : List T → Option (List T × List T)) : List T → Option EO := fun γ => (a γ).bind fun q => if bs.length = holes P ∧ q.1.length = holes P then makeX C g (weave (fun _ => none) P bs) (weave (fun x => .d x) P q.1) q.2 else none
theorem efx_makeK {g : FN} {P : List (Option (V × D))} {bs : List (Option Nat)} {a : List T → Option (List T × List T)} {l1 l2 : List TE} {n m : Nat} {gV : List V → List V → List V} (hP : ∀ I q, some q ∈ P → Is K I q.1 q.2) (ha : EfA K (tList (l1 ++ l2)) bs a) (hn : l1.length = n) (hm : l2.length = m) (hh : n + m = holes P)
    (hg : ∀ x vs zs, vs.length = n → zs.length = m → gV (x :: vs) zs = x :: weave (·.1) P (vs ++ zs)) : EfX K W (tMakeKS C n m (spF K g) gV (WE W) (tList l1) (tList l2)) (xMake C g (P.map (Option.map (·.2))) bs a) := fun γ o e σ I H L w Q k1 k2 => by
  unfold xMake at e
  rw [holes_map, weave_map] at e
  replace e := Option.bind_eq_some_iff.mp e
  obtain ⟨⟨ts, γ1⟩, e1, e⟩ := e
  split at e
  · rename_i hl
    show tList l1 σ H fun vs H1 => tList l2 σ H1 fun zs H2 => _
    rw [tList_app]
    refine ha γ ts γ1 e1 σ I H L w _ fun ws I1 H1 L1 w1 s1 hb => ?_
    have hw : ws.length = holes P := hb.len.trans hl.1
    have l1' : (ws.take l1.length).length = n := by simp; omega
    have l2' : (ws.drop l1.length).length = m := by simp; omega
    refine ⟨l1', l2', fun p dx hp hd hne => ?_⟩
    rw [hg _ _ _ l1' l2', List.take_append_drop]
    rw [weave_map] at e
    exact makeX_ok (ts := weave (fun p => .d p.2) P ts) ⟨EnvT.weave (hP I1) hl.2 hw w1.env, w1.nd, w1.fr, w1.sub⟩ (hb.weave hl.1) e hp hd hne (fun r γ2 h I2 H2 L2 w2 s2 => k1 r γ2 h _ I2 H2 L2 w2 (s1.trans s2)) fun X fs γ2 h d I2 H2 L2 w2 s2 => k2 X fs γ2 h d I2 H2 L2 w2 (s1.trans s2)
  · cases e
theorem ef_makeKS {g : FN} {P : List (Option (V × D))} {bs : List (Option Nat)} {a : List T → Option (List T × List T)} {l1 l2 : List TE} {n m : Nat} {gV : List V → List V → List V} {E : L2.St → XK} (hP : ∀ I q, some q ∈ P → Is K I q.1 q.2) (ha : EfA K (tList (l1 ++ l2)) bs a) (hn : l1.length = n) (hm : l2.length = m) (hh : n + m = holes P)
    (hg : ∀ x vs zs, vs.length = n → zs.length = m → gV (x :: vs) zs = x :: weave (·.1) P (vs ++ zs)) : Ef K (tMakeKS C n m (spF K g) gV E (tList l1) (tList l2)) (eMake C g (P.map (Option.map (·.2))) bs a) := fun γ t γ' e σ I H L w Q k => ef_makeK hP ha hn hm hh hg γ t γ' e σ I H L w Q k
/-! statements -/
def sExprX (f : List T → Option EO) : List T → Option O := fun γ => (f γ).map fun q => match q with
  | .ok _ γ' => .nx γ'
  | .xc C fs γ' => .xc C fs γ'
theorem rs_exprX {f : List T → Option EO} (hf : EfX K W te f) : RunS K wr W (tDrop te) (sExprX f) := fun γ o e σ I H L w Dn p => by
  unfold sExprX at e
  obtain ⟨q, e1, e2⟩ := Option.map_eq_some_iff.mp e
  subst e2
  refine hf γ q e1 σ I H L w _ (fun t γ' h v I' H' L' w' s' => ?_) fun C fs γ' h d I' H' L' w' s' hx => ?_
  · subst h
    obtain ⟨L3, w3, s3, _⟩ := w'.tail
    exact p σ I' H' _ w3 (s'.trans s3) (.refl σ)
  · subst h
    exact p d σ I' H' L' w' s' (.refl σ) hx
def sAsgX (i : Nat) (f : List T → Option EO) : List T → Option O := fun γ => (f γ).map fun q => match q with
  | .ok t γ' => .nx (γ'.set i t)
  | .xc C fs γ' => .xc C fs γ'
theorem rs_asgX {i : Nat} {f : List T → Option EO} (hf : EfX K W te f) (hi : i ∈ wr) : RunS K wr W (tAsg te (gName i)) (sAsgX i f) := fun γ o e σ I H L w Dn p => by
  unfold sAsgX at e
  obtain ⟨q, e1, e2⟩ := Option.map_eq_some_iff.mp e
  subst e2
  refine hf γ q e1 σ I H L w _ (fun t γ' h v I' H' L' w' s' => ?_) fun C fs γ' h d I' H' L' w' s' hx => ?_
  · subst h
    obtain ⟨L3, w3, s3⟩ := w'.setF i
    exact p _ I' H' _ w3 (s'.trans s3) (.set hi)
  · subst h
    exact p d σ I' H' L' w' s' (.refl σ) hx
def sRetX (f : List T → Option EO) : List T → Option O := fun γ => (f γ).map fun q => match q with
  | .ok t γ' => .rt t γ'
  | .xc C fs γ' => .xc C fs γ'
theorem rs_retX {f : List T → Option EO} (hf : EfX K W te f) : RunS K wr W (tRet te) (sRetX f) := fun γ o e σ I H L w Dn p => by
  unfold sRetX at e
  obtain ⟨q, e1, e2⟩ := Option.map_eq_some_iff.mp e
  subst e2
  refine hf γ q e1 σ I H L w _ (fun t γ' h v I' H' L' w' s' => ?_) fun C fs γ' h d I' H' L' w' s' hx => ?_
  · subst h
    exact p v σ I' H' L' w' s' (.refl σ)
  · subst h
    exact p d σ I' H' L' w' s' (.refl σ) hx
/-- an own error's __init__: fields fs, from the arguments -/
def spXI (C : Addr) (fs : List Str) : Sp := fun vs H Q _ => ∃ a ws, vs = .ref a :: ws ∧ ws.length = fs.length ∧ H a = some (exo a C none) ∧ ∀ dx, H dx = none → dx ≠ a → Q .non (upd (upd H dx (exd dx (fs.zip ws).reverse)) a (exo a C (some dx)))
theorem IsX.app {fs1 fs2 : List (Str × D)} : ∀ {k1 k2 : List (Str × V)}, IsX K I k1 fs1 → IsX K I k2 fs2 → IsX K I (k1 ++ k2) (fs1 ++ fs2) := by
  intro k1 k2 h1 h2
  induction h1 with
  | nil => exact h2
  | cons a _ ih => exact .cons a ih
theorem IsX.rev {kvs : List (Str × V)} {fs : List (Str × D)} (h : IsX K I kvs fs) : IsX K I kvs.reverse fs.reverse := by
  induction h with
  | nil => exact .nil
  | cons a _ ih => rw [List.reverse_cons, List.reverse_cons]; exact ih.app (.cons a .nil)
theorem IsX.zip : ∀ {ns : List Str} {vs : List V} {xs : List D}, IsA K I vs xs → IsX K I (ns.zip vs) (ns.zip xs)
  | [], _, _, _ => by simp; exact .nil
  | n :: ns, [], _, h => by cases h; exact .nil
  | n :: ns, v :: vs, _, h => by
    cases h with
    | cons h1 h2 => exact .cons h1 (IsX.zip h2)
/-- raise C(a, ..) -/
def sRaise (C : Addr) (ns : List Str) (a : List T → Option (List D)) : List T → Option O := fun γ => (a γ).bind fun xs => if xs.length = ns.length ∧ xs.length ≤ 1000 then some (.xc C (ns.zip xs).reverse γ) else none
theorem rs_raise {ns : List Str} {a : List T → Option (List D)} {tr : TA} (ha : PuA K tr a) : RunS K wr W (fun Dn σ H => tMkO C (spXI C ns) [] tr σ H fun cls d H' => W cls d σ H') (sRaise C ns a) := fun γ o e σ I H L w Dn p => by
  unfold sRaise at e
  replace e := Option.bind_eq_some_iff.mp e
  obtain ⟨xs, e1, e⟩ := e
  split at e
  · rename_i hl
    cases e
    refine ha γ xs e1 σ I H L w _ fun vs I1 H1 n1 s1 hv => ?_
    have hlv : vs.length = xs.length := hv.length
    refine ⟨by omega, fun b hb => ?_⟩
    refine ⟨b, vs, by rw [List.append_nil], by omega, upd_same, fun dx hdx hne => ⟨rfl, dx, _, upd_same, by rw [upd_ne hne]; exact upd_same, by rw [upd_ne hne] at hdx; exact hdx, ?_⟩⟩
    rw [upd_ne hne] at hdx
    have w1 := w.new n1 s1
    have hH : upd (del (upd (upd (upd H1 b (exo b C none)) dx (exd dx (ns.zip vs).reverse)) b (exo b C (some dx))) b) dx (.xd (ns.zip vs).reverse) = upd H1 dx (.xd (ns.zip vs).reverse) := by
      funext c
      by_cases h1 : c = dx
      · subst h1; rw [upd_same, upd_same]
      · rw [upd_ne h1, upd_ne h1]
        by_cases h2 : c = b
        · subst h2; rw [del_same, hb]
        · rw [del_ne h2, upd_ne h2, upd_ne h1, upd_ne h2]
    rw [hH]
    have ex := Ex.new (o := .xd (ns.zip vs).reverse) hdx
    have dL : dx ∉ L := fun h => w1.live dx h hdx
    refine p dx σ I1 _ L ⟨w1.env.keep (Ex.refl _) fun c h => upd_ne fun e => dL (e ▸ h), w1.nd, w1.fr, fun c u e => ex c u (s1 c u e)⟩ (n1.stp.trans ⟨Ex.refl _, fun c u e _ => ex c u e, fun c h => .inl h, fun c u e => .inl e⟩) (.refl σ) ⟨_, upd_same, dL, s1.back hdx, (IsX.zip hv).rev⟩
  · cases e
/-! try -/
def sTryO (cs : List (Addr × Bool)) (fb fh : List T → Option O) : List T → Option O := fun γ => (fb γ).bind fun o => match o with
  | .xc C fs γ1 => match cs.lookup C with
    | some true => fh γ1
    | some false => some (.xc C fs γ1)
    | none => none
  | o => some o
theorem rs_try_only {tb : WX → TS} {ts : Addr → Value → Option Addr → TS} {c : Value} {cs : List (Addr × Bool)} {fb fh : List T → Option O} {Wout : WX} (hcs : ∀ C b, cs.lookup C = some b → PySem.W.exmOne K (.ref C) c = some b) (hb : ∀ W, RunS K wr W (tb W) fb) (hs : ∀ a cls d, RunS K wr Wout (ts a cls d) fh) :
    RunS K wr Wout (fun D σ H => tb (wOnly K c ts Wout D) D σ H) (sTryO cs fb fh) := fun γ o e σ I H L w Dn p => by
  unfold sTryO at e
  replace e := Option.bind_eq_some_iff.mp e
  obtain ⟨o1, e1, e⟩ := e
  refine hb _ γ o1 e1 σ I H L w Dn ?_
  cases o1 with
  | nx γ1 => cases e; exact p
  | rt r γ1 => cases e; exact p
  | bk γ1 => cases e; exact p
  | ct γ1 => cases e; exact p
  | xc C fs γ1 =>
    intro d σ' I' H' L' w' s' a' hx
    dsimp only at e
    cases e2 : cs.lookup C with
    | none => rw [e2] at e; cases e
    | some b =>
      rw [e2] at e
      refine ⟨b, hcs C b e2, fun h b' hb' => ?_, fun h => ?_⟩
      · subst h
        exact hs _ _ _ γ1 o e σ' I' H' L' w' Dn (p.later s' a')
      · subst h
        cases e
        exact p d σ' I' H' L' w' s' a' hx
/-- a handler that may read the error's fields -/
def RunH (K : PySem.W.Frag) (wr : List Nat) (W : WX') (i : Nat) (ts : Addr → Value → Option Addr → TS) (fh : Addr → List (Str × D) → List T → Option O) : Prop := ∀ C fs γ o, fh C fs γ = some o → ∀ a d σ I H L, WS K γ σ I H L → σ[i]? = some (some (.ref a)) → XAt K I H L d fs → ∀ Dn : Ends, PostS K wr W Dn σ I H L o → ts a (.ref C) (some d) Dn σ H
def oCl (i : Nat) : O → Option O
  | .nx γ => some (.nx (γ.set i .em))
  | .bk γ => some (.bk (γ.set i .em))
  | .ct γ => some (.ct (γ.set i .em))
  | .rt r γ => some (.rt r γ)
  | .xc _ _ _ => none
def sTryA (cs : List (Addr × Bool)) (i : Nat) (fb : List T → Option O) (fh : Addr → List (Str × D) → List T → Option O) : List T → Option O := fun γ => (fb γ).bind fun o => match o with
  | .xc C fs γ1 => match cs.lookup C with
    | some true => if i < γ1.length then (fh C fs (γ1.set i .em)).bind (oCl i) else none
    | some false => some (.xc C fs γ1)
    | none => none
  | o => some o
theorem rs_try_as {tb : WX → TS} {ts : Addr → Value → Option Addr → TS} {c : Value} {i : Nat} {cs : List (Addr × Bool)} {fb : List T → Option O} {fh : Addr → List (Str × D) → List T → Option O} {Wout : WX} (hi : i ∈ wr) (hcs : ∀ C b, cs.lookup C = some b → PySem.W.exmOne K (.ref C) c = some b) (hb : ∀ W, RunS K wr W (tb W) fb) (hs : RunH K wr (fun _ _ _ _ => False) i ts fh) :
    RunS K wr Wout (fun D σ H => tb (wAs K c i ts Wout D) D σ H) (sTryA cs i fb fh) := fun γ o e σ I H L w Dn p => by
  unfold sTryA at e
  replace e := Option.bind_eq_some_iff.mp e
  obtain ⟨o1, e1, e⟩ := e
  refine hb _ γ o1 e1 σ I H L w Dn ?_
  cases o1 with
  | nx γ1 => cases e; exact p
  | rt r γ1 => cases e; exact p
  | bk γ1 => cases e; exact p
  | ct γ1 => cases e; exact p
  | xc C fs γ1 =>
    intro d σ' I' H' L' w' s' a' hx
    dsimp only at e
    cases e2 : cs.lookup C with
    | none => rw [e2] at e; cases e
    | some b =>
      rw [e2] at e
      refine ⟨b, hcs C b e2, fun h b' hb' => ?_, fun h => ?_⟩
      · subst h
        dsimp only at e
        split at e
        · rename_i hlt
          replace e := Option.bind_eq_some_iff.mp e
          obtain ⟨o2, e3, e⟩ := e
          obtain ⟨L2, w2, s2⟩ := w'.setE (some (.ref b')) i
          have hl : i < σ'.length := by rw [← w'.env.len]; exact hlt
          have ag : Agr wr σ (σ'.set i (some (.ref b'))) := a'.trans (.set hi)
          have back : ∀ {γ2 : List T} {σ2 : Sg} {I2 H2 : Hp} {L3 : List Addr}, WS K γ2 σ2 I2 H2 L3 → ∃ L4, WS K (γ2.set i .em) (σ2.set i none) I2 H2 L4 ∧ Step I2 H2 L3 I2 H2 L4 := fun w => w.setE none i
          refine hs C fs _ o2 e3 b' d _ I' H' L2 w2 (by rw [List.getElem?_set_self hl]) (hx.move w2 s2) _ ?_
          cases o2 with
          | nx γ2 =>
            cases e
            intro σ2 I2 H2 L3 w3 s3 a3
            obtain ⟨L4, w4, s4⟩ := back w3
            exact p _ I2 H2 L4 w4 (((s'.trans s2).trans s3).trans s4) ((ag.trans a3).trans (.set hi))
          | bk γ2 =>
            cases e
            intro σ2 I2 H2 L3 w3 s3 a3
            obtain ⟨L4, w4, s4⟩ := back w3
            exact p _ I2 H2 L4 w4 (((s'.trans s2).trans s3).trans s4) ((ag.trans a3).trans (.set hi))
          | ct γ2 =>
            cases e
            intro σ2 I2 H2 L3 w3 s3 a3
            obtain ⟨L4, w4, s4⟩ := back w3
            exact p _ I2 H2 L4 w4 (((s'.trans s2).trans s3).trans s4) ((ag.trans a3).trans (.set hi))
          | rt r γ2 =>
            cases e
            intro v σ2 I2 H2 L3 w3 s3 a3
            exact p v σ2 I2 H2 L3 w3 ((s'.trans s2).trans s3) (ag.trans a3)
          | xc C2 fs2 γ2 => cases e
        · cases e
      · subst h
        cases e
        exact p d σ' I' H' L' w' s' a' hx
theorem IsX.look : ∀ {kvs : List (Str × V)} {fs : List (Str × D)} {f : Str} {x : D}, IsX K I kvs fs → fs.lookup f = some x → ∃ v, kvs.lookup f = some v ∧ Is K I v x
  | _, _, _, _, .nil, e => by cases e
  | _, _, f, x, .cons (f := g) (kvs := kvs) (fs := fs) h r, e => by
    rw [List.lookup_cons] at e
    rw [List.lookup_cons]
    split at e
    · rename_i hb
      cases e
      exact ⟨_, rfl, h⟩
    · rename_i hb
      exact r.look e
theorem rh_of {i : Nat} {fh : List T → Option O} {ts : Addr → Value → Option Addr → TS} (h : ∀ a cls d, RunS K wr W (ts a cls d) fh) : RunH K wr W i ts (fun _ _ => fh) := fun C fs γ o e a d σ I H L w _ _ Dn p => h _ _ _ γ o e σ I H L w Dn p
/-- x = error.f -/
def hAsg (C : Addr) (j : Nat) (f : Str) : Addr → List (Str × D) → List T → Option O := fun C' fs γ => if C' = C then (fs.lookup f).map fun x => .nx (γ.set j (.d x)) else none
theorem rh_asg {i j : Nat} {f : Str} (hj : j ∈ wr) : RunH K wr W i (fun a cls d => tAsg (tXf a cls d C f (tVar i)) (gName j)) (hAsg C j f) := fun C' fs γ o e a d σ I H L w hs hx Dn p => by
  unfold hAsg at e
  split at e
  · rename_i hc
    subst hc
    obtain ⟨x, e1, rfl⟩ := Option.map_eq_some_iff.mp e
    obtain ⟨kvs, h1, h2, h3, h4⟩ := hx
    obtain ⟨v, hv, hv2⟩ := h4.look e1
    obtain ⟨L3, w3, s3⟩ := (w.front hv2).setF j
    exact ⟨_, hs, rfl, rfl, d, kvs, v, rfl, h1, hv, p _ I H L3 w3 s3 (.set hj)⟩
  · cases e
def hRet (C : Addr) (f : Str) : Addr → List (Str × D) → List T → Option O := fun C' fs γ => if C' = C then (fs.lookup f).map fun x => .rt (.d x) γ else none
theorem rh_ret {i : Nat} {f : Str} : RunH K wr W i (fun a cls d => tRet (tXf a cls d C f (tVar i))) (hRet C f) := fun C' fs γ o e a d σ I H L w hs hx Dn p => by
  unfold hRet at e
  split at e
  · rename_i hc
    subst hc
    obtain ⟨x, e1, rfl⟩ := Option.map_eq_some_iff.mp e
    obtain ⟨kvs, h1, h2, h3, h4⟩ := hx
    obtain ⟨v, hv, hv2⟩ := h4.look e1
    exact ⟨_, hs, rfl, rfl, d, kvs, v, rfl, h1, hv, p v σ I H L (w.front hv2) (Step.refl _ _ _) (.refl σ)⟩
  · cases e
def hSeq (fh : Addr → List (Str × D) → List T → Option O) (g : List T → Option O) : Addr → List (Str × D) → List T → Option O := fun C fs γ => (fh C fs γ).bind fun o => match o with
  | .nx γ1 => g γ1
  | o => some o
theorem rh_seq {i : Nat} {fh : Addr → List (Str × D) → List T → Option O} {g : List T → Option O} {t1 t2 : Addr → Value → Option Addr → TS} (h1 : RunH K wr W i t1 fh) (h2 : ∀ a cls d, RunS K wr W (t2 a cls d) g) : RunH K wr W i (fun a cls d => tSeq (t1 a cls d) (t2 a cls d)) (hSeq fh g) := fun C fs γ o e a d σ I H L w hs hx Dn p => by
  unfold hSeq at e
  replace e := Option.bind_eq_some_iff.mp e
  obtain ⟨o1, e1, e2⟩ := e
  show t1 a (.ref C) (some d) { Dn with nx := (t2 a (.ref C) (some d)) Dn } σ H
  cases o1 with
  | nx γ1 => exact h1 C fs γ _ e1 a d σ I H L w hs hx { Dn with nx := _ } fun σ' I' H' L' w' s a' => h2 _ _ _ γ1 o e2 σ' I' H' L' w' Dn (p.later s a')
  | rt r γ1 => cases e2; exact h1 C fs γ _ e1 a d σ I H L w hs hx { Dn with nx := _ } p
  | bk γ1 => cases e2; exact h1 C fs γ _ e1 a d σ I H L w hs hx { Dn with nx := _ } p
  | ct γ1 => cases e2; exact h1 C fs γ _ e1 a d σ I H L w hs hx { Dn with nx := _ } p
  | xc C fs γ1 => cases e2; exact h1 _ _ γ _ e1 a d σ I H L w hs hx { Dn with nx := _ } p
/-! THE RULE for defs -/
variable {P : Program} {w : PySem.World} {mg : Str → Option Value} {base : Heap} {CX' : CXT}
theorem okFD {x qual : Str} {params : Arguments} {body : List Stmt} {scope : Scope} {dvs : List V} {kws : List (Str × V)} {f : Addr} {fd : FuncData} {N ps : List Str} {k : Nat} {fb : List T → Option O} {wr : List Nat} {n np : Nat} (F : FunD K x qual params body scope dvs kws f fd) (S : FnScope N ps scope) (hn : N.length = n) (hnp : ps.length = np) (hle : np ≤ n)
    (hbody : ∀ (cdv : Value) (A : Around) (outer : List Env) (s : Shared) (H : Hp) (E : XK), Room k (A.deeper (envOfC qual scope s.heap.objs.size f cdv)) →
      ∃ t, PSs (cxOf CX' P w K mg base N qual scope f cdv A outer s H E) body t ∧ RunS K wr (fun cls d _ H' => E cls d H') t fb) : FnOk P w K mg base CX' (k + 1) f fd ps (spF K (fnF np n wr fb)) := by
  refine F.ok S (fun vs H Q E h => (spF_len h).trans hnp.symm) fun cdv A outer s H vs Q E hr h => ?_
  obtain ⟨t, ht, hb⟩ := hbody cdv A outer s H E hr
  exact ⟨t, ht, body_okS hb hn hle h⟩
theorem okFX {x qual : Str} {st : Stmt} {f : Addr} {fd : FuncData} {N ps : List Str} {k : Nat} {fb : List T → Option O} {wr : List Nat} {n np : Nat} (F : Fun K x qual st f fd) (S : FnScope N ps (defScope st)) (hn : N.length = n) (hnp : ps.length = np) (hle : np ≤ n)
    (hbody : ∀ (cdv : Value) (A : Around) (outer : List Env) (s : Shared) (H : Hp) (E : XK), Room k (A.deeper (envOfC qual (defScope st) s.heap.objs.size f cdv)) →
      ∃ t, PSs (cxOf (CX P w) P w K mg base N qual (defScope st) f cdv A outer s H E) (defBody st) t ∧ RunS K wr (fun cls d _ H' => E cls d H') t fb) : FnOk P w K mg base (CX P w) (k + 1) f fd ps (spF K (fnF np n wr fb)) := by
  refine F.okX S (fun vs H Q E h => (spF_len h).trans hnp.symm) fun cdv A outer s H vs Q E hr h => ?_
  obtain ⟨t, ht, hb⟩ := hbody cdv A outer s H E hr
  exact ⟨t, ht, body_okS hb hn hle h⟩
end
end FD

/-! FSN: x != y where only __eq__ is own. -/
namespace FD
open PySem PySem.Spec PyProof.Rows L2
theorem ifBound_B {A : Around} {E : Value → Shared → Prop} {s : Shared} {K : PySem.W.Frag} {x C : Addr} {ox : Obj} {od : Option Obj} {name : Str} {T id : String} {M : Model} {args : List Value} {Q : Option Value → Shared → Prop} (X : K.In s.heap) (I : PySem.W.InstAt s.heap x ox C od) (hs : PySem.W.findIn K (.ref C) name = some (some (.builtin id))) (sl : Slot T name id) (h : wpAny M A (call (.builtin id) (.ref x :: args)) (fun v => Q (some v)) E s) : wpAny M A (callSpecialIfBound? (.ref x) name args) Q E s := by
  unfold callSpecialIfBound?
  refine wpAny_holding (wpAny_bind ?_)
  unfold bindSpecialIfBound?
  refine wpAny_bind ?_
  refine PySem.W.Looks.here (I.type.andThen (PySem.W.looks_findIn X hs)) ?_
  dsimp only
  rw [sl.bind]
  refine wpAny_bind (wpAny_askSetting ?_)
  have go : wpAny M A (call (.builtin id) ([.ref x] ++ args) >>= fun v => pure (some v)) Q E s := wpAny_bind (wpAny_mono h (fun v s' hv => wpAny_pure hv) fun _ _ e => e)
  split
  · exact wpAny_bind (wpAny_pure (wpAny_pure go))
  · exact wpAny_tryCatch (wpAny_bind (wpAny_pure (wpAny_pure go)))
theorem check_ne {A : Around} {E : Value → Shared → Prop} {s : Shared} {K : PySem.W.Frag} {x C : Addr} {ox : Obj} {od : Option Obj} {M : Model} {b : Value} {Q : Unit → Shared → Prop} (X : K.In s.heap) (I : PySem.W.InstAt s.heap x ox C od) (hsub : PySem.W.subIn K (.ref C) (.type "object") = some true) (h : Q () s) : wpAny M A (checkBuiltinCall "object.__ne__" { pos := [.ref x, b] }) Q E s := by
  unfold checkBuiltinCall
  rw [F.cmpKind_ne, F.cmpSplit_ne]
  dsimp only
  refine wpAny_bind (PySem.W.Looks.here (I.type.andThen (PySem.W.looks_subIn X hsub)) ?_)
  rw [if_neg (by decide)]
  have e := F.cmpArgs_ne (.ref x) b
  exact Eq.mpr (congrArg (fun t => wpAny M A t Q E s) e) (wpAny_pure h)
theorem tryNe {A : Around} {E : Value → Shared → Prop} {s : Shared} {K : PySem.W.Frag} {x C f : Addr} {ox : Obj} {od : Option Obj} {prog : Program} {w : PySem.World} {b : Value} {Q : Option Value → Shared → Prop} (X : K.In s.heap) (I : PySem.W.InstAt s.heap x ox C od) (hne : PySem.W.findIn K (.ref C) "__ne__" = some (some (.builtin "object.__ne__"))) (heq : PySem.W.findIn K (.ref C) "__eq__" = some (some (.ref f))) (hf : PySem.W.isFn K (.ref f) = true) (hsub : PySem.W.subIn K (.ref C) (.type "object") = some true) (hu : A.units + 1 < cLine)
    (h : wpAny (model prog w) A.in1 (call (.ref f) [.ref x, b]) (fun v s' => ∃ c, v = .bool c ∧ Q (some (.bool !c)) s') E s) : wpAny (model prog w) A (tryCompare (.ref x) "__ne__" b) Q E s := by
  unfold tryCompare
  refine wpAny_bind (ifBound_B X I hne F.cmp_object.ne ?_)
  refine wpAny_call (codeAny_call_builtin F.cmp_object.ne.plain F.cmpEntry_ne (check_ne X I hsub ?_))
  unfold PySem.Builtin.«object.__ne__» slotArgs
  dsimp only
  refine wpAny_bind ?_
  rw [if_neg (by simp), if_neg (by simp)]
  refine wpAny_pure ?_
  dsimp only
  refine wpAny_bind (wpAny_cRoomFor (by exact hu) ?_)
  refine wpAny_bind (PySem.W.ifBound_K X I heq hf (wpAny_mono h (fun v s' hv => ?_) fun e s' h => h))
  obtain ⟨c, rfl, hq⟩ := hv
  exact wpAny_bind (wpAny_pure (wpAny_pure (wpAny_pure hq)))
theorem ne_K {prog : Program} {w : PySem.World} {A : Around} {E : Value → Shared → Prop} {s : Shared} {K : PySem.W.Frag} {x C f : Addr} {ox : Obj} {od : Option Obj} {b tb : Value} {Q : Value → Shared → Prop} (hu : A.units + 1 < cLine) (X : K.In s.heap) (I : PySem.W.InstAt s.heap x ox C od) (hb : PySem.W.Looks (model prog w) s.heap (typeOf b) tb) (hn : PySem.W.notFirst K C tb = true) (hne : PySem.W.findIn K (.ref C) "__ne__" = some (some (.builtin "object.__ne__"))) (heq : PySem.W.findIn K (.ref C) "__eq__" = some (some (.ref f))) (hf : PySem.W.isFn K (.ref f) = true) (hsub : PySem.W.subIn K (.ref C) (.type "object") = some true)
    (h : wpAny (model prog w) A.in1 (call (.ref f) [.ref x, b]) (fun v s' => ∃ c, v = .bool c ∧ Q (.bool !c) s') E s) : wpAny (model prog w) A (richCompare .NotEq (.ref x) b) Q E s := by
  unfold richCompare
  refine wpAny_holding (wpAny_bind (wpAny_cRoomFor (Nat.lt_of_succ_lt hu) ?_))
  dsimp only [oneThing?, cmpInfo]
  have go : ∀ rest : Sem Value, wpAny (model prog w) A (do
      let __do_lift ← tryCompare (.ref x) "__ne__" b
      match __do_lift with
        | some v => pure v
        | _ => rest) Q E s := fun rest => wpAny_bind (tryNe X I hne heq hf hsub hu (wpAny_mono h (fun v s' hv => by
      obtain ⟨c, rfl, hq⟩ := hv
      exact ⟨c, rfl, wpAny_pure hq⟩) fun _ _ e => e))
  refine wpAny_bind (PySem.W.Looks.here I.type ?_)
  refine wpAny_bind (PySem.W.Looks.here hb ?_)
  by_cases htb : (Value.ref C != tb) = true
  · rw [if_pos htb]
    have hs : PySem.W.subIn K tb (.ref C) = some false := by
      unfold PySem.W.notFirst at hn
      rcases Bool.or_eq_true_iff.mp hn with z | z
      · rw [beq_iff_eq.mp z] at htb; simp at htb
      · exact beq_iff_eq.mp z
    refine wpAny_bind (PySem.W.Looks.here (PySem.W.looks_subIn X hs) ?_)
    rw [if_neg (by decide)]
    exact go _
  · rw [if_neg htb]
    refine wpAny_bind (wpAny_pure ?_)
    rw [if_neg (by decide)]
    exact go _
end FD
namespace FD
open PySem PySem.Spec PyProof.Rows L2
/-- what may stand beside an object of the class at C -/
inductive Beside (C : Addr) (H : Hp) : V → Prop
  | ins {b dy : Addr} {gs : List (Str × V)} : H b = some (.ins C dy gs) → Beside C H (.ref b)
  | int (i : Int) : Beside C H (.int i)
  | str (x : Str) : Beside C H (.str x)
/-- x == y, x an object with an own __eq__ -/
def rOwnEq (C : Addr) (sp : Sp) : R2 := fun x y H Q => ∃ a dx fs, x = .ref a ∧ H a = some (.ins C dx fs) ∧ Beside C H y ∧ sp [x, y] H Q fun _ _ _ => False
def rOwnNe (C : Addr) (sp : Sp) : R2 := fun x y H Q => ∃ a dx fs, x = .ref a ∧ H a = some (.ins C dx fs) ∧ Beside C H y ∧ sp [x, y] H (fun v H' => ∃ c, v = .bl c ∧ Q (.bl (!c)) H') fun _ _ _ => False
structure EqCls (K : PySem.W.Frag) (C g : Addr) : Prop where
  eq : PySem.W.findIn K (.ref C) "__eq__" = some (some (.ref g))
  ne : PySem.W.findIn K (.ref C) "__ne__" = some (some (.builtin "object.__ne__"))
  fn : PySem.W.isFn K (.ref g) = true
  ob : PySem.W.subIn K (.ref C) (.type "object") = some true
section
variable {X : Cx} {n : Nat} {C g : Addr} {fd : FuncData} {p q : Str} {sp : Sp}
theorem run_eq {A : Around} {pins : List (Addr × Obj)} {σ : L2.St} {H : Hp} {s : Shared} {Q : VK} {us : List Value} {vs : List V} (F : FnOk X.prog X.w X.K X.mg X.base CX0 n g fd [p, q] sp) (hb : L2.Binds X.K fd [p, q] []) (hr : Room n A) (hA : ∀ {s H}, L2.Inv X pins σ H s → Env0 X.prog X.w X.K X.mg X.base A X.stack s H) (I : L2.Inv X pins σ H s) (r : Vals vs us) (h : sp vs H Q fun _ _ _ => False) : wpAny (model X.prog X.w) A (call (.ref g) us) (EP X pins σ Q) X.xe s := by
  have hl : us.length = 2 := (Vals.length r).symm.trans (F.len _ _ _ _ h)
  have b := hb s us I.kIn (by simp [hl])
  rw [List.append_nil] at b
  refine wpAny_call (codeAny_mono (F.run A X.stack s H { pos := us } us vs Q _ hr (hA I) b r h) fun r s' hq => ?_)
  cases r with
  | error e => exact hq.elim
  | ok fl =>
    cases fl with
    | ret u => exact Inv.after I hq
    | next => exact hq.elim
    | brk => exact hq.elim
    | cont => exact hq.elim
theorem beside {H : Hp} {y : V} {u : Value} {pins : List (Addr × Obj)} {σ : L2.St} {s : Shared} (hbs : Beside C H y) (I : L2.Inv X pins σ H s) (ry : L2.RelV y u) : ∃ tb, PySem.W.Looks (model X.prog X.w) s.heap (typeOf u) tb ∧ PySem.W.notFirst X.K C tb = true := by
  cases hbs with
  | ins hb =>
    cases ry
    obtain ⟨mB, J, _⟩ := ins_get I.hok hb
    obtain ⟨od, J, _⟩ := J.look
    exact ⟨_, J.type, by simp [PySem.W.notFirst]⟩
  | int i =>
    obtain ⟨t, rfl⟩ := ry
    refine ⟨.type "int", fun A Q E s hk q => ?_, ?_⟩
    · exact wpAny_pure q
    · have : PySem.W.subIn X.K (.type "int") (.ref C) = some false := rfl
      simp [PySem.W.notFirst, this]
  | str i =>
    obtain ⟨t, rfl⟩ := ry
    refine ⟨.type "str", fun A Q E s hk q => ?_, ?_⟩
    · exact wpAny_pure q
    · have : PySem.W.subIn X.K (.type "str") (.ref C) = some false := rfl
      simp [PySem.W.notFirst, this]
theorem op_ownEq (c : EqCls X.K C g) (F : FnOk X.prog X.w X.K X.mg X.base CX0 n g fd [p, q] sp) (hb : L2.Binds X.K fd [p, q] []) (hr : Room n X.A) : OpR X (compareOp .Eq) (rOwnEq C sp) := by
  intro pins s σ H x y v u Q I rx ry h
  obtain ⟨a, dx, fs, rfl, ha, hbs, q⟩ := h
  cases (show v = Value.ref a from rx)
  obtain ⟨mA, J, _⟩ := ins_get I.hok ha
  obtain ⟨od, J, _⟩ := J.look
  obtain ⟨m, hF⟩ := I.fr
  obtain ⟨tb, hl, hn⟩ := beside hbs I ry
  refine PySem.W.cmp_K (op := .Eq) (tb := tb) hr.units0 hF I.ok.mod.kin J hl hn c.eq c.fn ?_
  refine wpAny_mono (run_eq (vs := [.ref a, y]) F hb hr (fun I => I.env0) I (.cons rfl (.cons ry .nil)) q) (fun w s' z => ?_) fun _ _ x => x
  obtain ⟨z', H', I', rz, qz⟩ := z
  exact SlX.cmpback rz ⟨z', H', I', rz, qz⟩
theorem op_ownNe (c : EqCls X.K C g) (F : FnOk X.prog X.w X.K X.mg X.base CX0 n g fd [p, q] sp) (hb : L2.Binds X.K fd [p, q] []) (hr : Room (n + 1) X.A) : OpR X (compareOp .NotEq) (rOwnNe C sp) := by
  intro pins s σ H x y v u Q I rx ry h
  obtain ⟨a, dx, fs, rfl, ha, hbs, q⟩ := h
  cases (show v = Value.ref a from rx)
  obtain ⟨mA, J, _⟩ := ins_get I.hok ha
  obtain ⟨od, J, _⟩ := J.look
  obtain ⟨tb, hl, hn⟩ := beside hbs I ry
  refine ne_K (tb := tb) (by have := hr.un; omega) I.kIn J hl hn c.ne c.eq c.fn c.ob ?_
  refine wpAny_mono (run_eq (vs := [.ref a, y]) F hb hr.in1 (fun I => I.env0.in1) I (.cons rfl (.cons ry .nil)) q) (fun w s' z => ?_) fun _ _ x => x
  obtain ⟨z', H', I', rz, c, rfl, qz⟩ := z
  exact ⟨c, rz, .bl (!c), H', I', rfl, qz⟩
end
end FD

/-! FSG: own ==, !=, isinstance of more types, formatted texts, sets' lengths, upper. -/
namespace FD
open PySem PySem.Spec PyProof.Rows L2
section
variable {K : PySem.W.Frag} {wr : List Nat} {W : WX'} {ta tb tc te to td ty tx : TE} {tt tu : TT} {ts tv : TS} {I I' H H' : Hp} {γ γ' : List T} {σ : Sg} {L : List Addr} {t : T} {v : V} {x : D} {C : Addr} {ns : List Str} {fn : Str}
def besideD (C : Addr) : D → Bool
  | .ins C' _ _ => decide (C' = C)
  | .int _ => true
  | .str _ => true
  | _ => false
theorem beside_of {y : D} (h : besideD C y = true) (s : Ex I H) (hw : Tp K I H v y) : Beside C H v ∧ Is K I v y := by
  cases hw with
  | is hw =>
    refine ⟨?_, hw⟩
    cases hw with
    | ins h1 h2 h3 => simp [besideD] at h; subst h; exact .ins (s _ _ h1)
    | int i => exact .int i
    | str i => exact .str i
    | _ => simp [besideD] at h
  | lst h1 h2 => simp [besideD] at h
  | dic h1 h2 h3 => simp [besideD] at h
def oOwnEq (C : Addr) (g : FN) (x y : D) : Option D := match x with
  | .ins C' ns ds => if C' = C ∧ besideD C y = true then (match g [.d (.ins C' ns ds), .d y] with
    | some (.ret (.d (.bl b)) _) => some (.bl b)
    | _ => none) else none
  | _ => none
def oOwnNe (C : Addr) (g : FN) (x y : D) : Option D := (oOwnEq C g x y).bind fun z => match z with
  | .bl b => some (.bl (!b))
  | _ => none
theorem ownEq_core {g : FN} {x y z : D} (e : oOwnEq C g x y = some z) : ∃ b, z = .bl b ∧ ∀ (I H : Hp) (v w : V), Ex I H → Tp K I H v x → Tp K I H w y → ∃ a dx fs, v = .ref a ∧ H a = some (.ins C dx fs) ∧ Beside C H w ∧ ∀ (Q : VK) (E : XK), (∀ I' H', New I H I' H' → Ex I' H' → Q (.bl b) H') → spF K g [v, w] H Q E := by
  unfold oOwnEq at e
  split at e
  · rename_i C' ns ds
    split at e
    · rename_i hc
      obtain ⟨rfl, hb⟩ := hc
      split at e
      · rename_i b post hg
        cases e
        refine ⟨b, rfl, fun I H v w s hv hw => ?_⟩
        cases hv with
        | is hv =>
          obtain ⟨hbs, hw2⟩ := beside_of hb s hw
          have hv0 := hv
          cases hv with
          | @ins a _ dx fs _ _ h1 h2 h3 =>
            refine ⟨a, dx, fs, rfl, s _ _ h1, hbs, fun Q E k => ?_⟩
            exact spF_pure (xs := [.ins C' ns ds, y]) s (.cons hv0 (.cons hw2 .nil)) hg rfl fun u I' H' n s' hu => by
              cases hu
              exact k I' H' n s'
      · cases e
    · cases e
  · cases e
theorem ownEq_t {g : FN} : ∀ x y z, oOwnEq C g x y = some z → OpT K (rOwnEq C (spF K g)) x y z := fun x y z e I H v w s hv hw Q q => by
  obtain ⟨b, rfl, h⟩ := ownEq_core (K := K) e
  obtain ⟨a, dx, fs, rfl, h1, h2, h3⟩ := h I H v w s hv hw
  exact ⟨a, dx, fs, rfl, h1, h2, h3 Q _ fun I' H' n s' => q _ I' H' n s' (.bl b)⟩
theorem ownNe_t {g : FN} : ∀ x y z, oOwnNe C g x y = some z → OpT K (rOwnNe C (spF K g)) x y z := fun x y z e I H v w s hv hw Q q => by
  unfold oOwnNe at e
  replace e := Option.bind_eq_some_iff.mp e
  obtain ⟨z1, e1, e⟩ := e
  obtain ⟨b, rfl, h⟩ := ownEq_core (K := K) e1
  cases e
  obtain ⟨a, dx, fs, rfl, h1, h2, h3⟩ := h I H v w s hv hw
  exact ⟨a, dx, fs, rfl, h1, h2, h3 _ _ fun I' H' n s' => ⟨b, rfl, q _ I' H' n s' (.bl (!b))⟩⟩
/-! isinstance -/
def oIsiC (C : Addr) (x : D) : Option D := match x with
  | .ins C' _ _ => if C' = C then some (.bl true) else none
  | x => if x.typed then some (.bl false) else none
theorem isiC_t {C : Addr} (o : IsiO K C) : ∀ x y z, (match y with | .raw (.ref C') => if C' = C then oIsiC C x else none | _ => none : Option D) = some z → OpT K (fun v w => rIsi K [v, w]) x y z := fun x y z e I H v w s hv hw Q q => by
  split at e
  · rename_i C'
    split at e
    · rename_i hc
      subst hc
      have hw' : w = .ref C' := by
        cases hw with
        | is hw => cases hw; rfl
      subst hw'
      unfold oIsiC at e
      split at e
      · rename_i C2 ns ds
        split at e
        · rename_i hc2
          subst hc2
          cases e
          cases hv with
          | is hv =>
            cases hv with
            | @ins a _ dx fs _ _ h1 h2 h3 =>
              exact ⟨_, _, .ref C2, .ref C2, true, rfl, .own C2, .base (.ins (s _ _ h1) o.cl o.ca o.cn o.ct o.cm), by simp [PySem.W.kitOne], q _ I H (New.refl I H) s (.bl _)⟩
        · cases e
      · split at e
        · rename_i ht
          cases e
          obtain ⟨I1, e1, s1, hv1⟩ := hv.frz s
          exact ⟨_, _, _, .ref C', false, rfl, .own C', hv1.tyx s1 ht, o.cb _ (tyN_mem ht), q _ I H (New.refl I H) s (.bl _)⟩
        · cases e
    · cases e
  · cases e
/-! formatted texts -/
def oFmt (x : D) : Option D := match x with
  | .str y => if y.length ≤ sizeLine then some (.str y) else none
  | .int i => if i.natAbs.log2 < 1920 then some (.str (Str.ofString (toString i))) else none
  | _ => none
theorem pu_fmt {f : List T → Option D} (hf : Pu K te f) : Pu K (tFmt te) (pUn oFmt f) := fun γ z e σ I H L w Q k => by
  unfold pUn at e
  replace e := Option.bind_eq_some_iff.mp e
  obtain ⟨x, e1, e⟩ := e
  refine hf γ x e1 σ I H L w _ fun v I1 H1 n1 s1 hv => ?_
  unfold oFmt at e
  split at e
  · split at e
    · rename_i y h
      cases e
      cases hv
      exact .inl ⟨_, rfl, h, k _ I1 H1 n1 s1 (.str _)⟩
    · cases e
  · split at e
    · rename_i i h
      cases e
      cases hv
      exact .inr ⟨_, rfl, h, k _ I1 H1 n1 s1 (.str _)⟩
    · cases e
  · cases e
inductive PuL (K : PySem.W.Frag) : List TE → List (List T → Option D) → Prop
  | nil : PuL K [] []
  | cons {te : TE} {f : List T → Option D} {ts : List TE} {fs : List (List T → Option D)} : Pu K te f → PuL K ts fs → PuL K (te :: ts) (f :: fs)
def pJs : List (List T → Option D) → Str → List T → Option D
  | [], acc, _ => some (.str acc)
  | f :: fs, acc, γ => (f γ).bind fun x => match x with
    | .str y => if (acc ++ y).length ≤ sizeLine then pJs fs (acc ++ y) γ else none
    | _ => none
theorem js_run : ∀ {ts : List TE} {fs : List (List T → Option D)}, PuL K ts fs → ∀ {acc : Str} {γ : List T} {z : D}, pJs fs acc γ = some z → ∀ {σ : Sg} {I H : Hp} {L : List Addr}, WS K γ σ I H L → ∀ Q : VK, (∀ v I' H', New I H I' H' → Ex I' H' → Is K I' v z → Q v H') → tJs ts acc σ H fun out H1 => Q (.str out) H1
  | _, _, .nil, acc, γ, z, e, σ, I, H, L, w, Q, k => by
    cases e
    rw [tJs]
    exact k _ I H (New.refl I H) w.sub (.str _)
  | _, _, .cons hf hs, acc, γ, z, e, σ, I, H, L, w, Q, k => by
    unfold pJs at e
    replace e := Option.bind_eq_some_iff.mp e
    obtain ⟨x, e1, e⟩ := e
    split at e
    · split at e
      · rename_i y hz
        rw [tJs]
        refine hf γ _ e1 σ I H L w _ fun v I1 H1 n1 s1 hv => ?_
        cases hv
        exact ⟨y, rfl, hz, js_run hs e (w.new n1 s1) Q fun v I' H' n s h => k v I' H' (n1.trans n) s h⟩
      · cases e
    · cases e
theorem pu_js {ts : List TE} {fs : List (List T → Option D)} (h : PuL K ts fs) : Pu K (fun σ H Q => tJs ts Str.empty σ H fun out H1 => Q (.str out) H1) (pJs fs Str.empty) := fun γ z e σ I H L w Q k => js_run h e w Q k
/-! isinstance(x, (A, B)) of kit types -/
def anyB : List (Option Bool) → Option Bool
  | [] => some false
  | some true :: _ => some true
  | some false :: bs => anyB bs
  | none :: _ => none
def oIsiT (Ts : List String) (x : D) : Option D := if x.typed then (anyB (Ts.map fun T => kitB x.tyN T)).map .bl else none
theorem kitAny_of {a : String} : ∀ {Ts : List String} {b : Bool}, anyB (Ts.map fun T => kitB a T) = some b → PySem.W.kitAny K (.type a) (Ts.map .type) = some b
  | [], b, e => by cases e; exact kitAny_nil
  | T :: Ts, b, e => by
    simp only [List.map_cons] at e ⊢
    cases e1 : kitB a T with
    | none => rw [e1] at e; cases e
    | some c =>
      rw [e1] at e
      cases c with
      | true => cases e; exact kitAny_cons (kit_ty e1) (fun h => nomatch h) (fun _ => rfl)
      | false => exact kitAny_cons (kit_ty e1) (fun _ => kitAny_of e) (fun h => nomatch h)
theorem pu_isiT {a b : String} {f : List T → Option D} (hf : Cu K te f) : Pu K (tCB (rIsiT K) (tCons te (tCons (tTup (tCons (tC (.ty a)) (tCons (tC (.ty b)) tNil))) tNil))) (pUn (oIsiT [a, b]) f) := fun γ z e σ I H L w Q k => by
  unfold pUn at e
  replace e := Option.bind_eq_some_iff.mp e
  obtain ⟨x, e1, e⟩ := e
  refine hf γ x e1 σ I H L w _ fun v I1 H1 n1 s1 hv => ?_
  unfold oIsiT at e
  split at e
  · rename_i ht
    obtain ⟨c, e2, rfl⟩ := Option.map_eq_some_iff.mp e
    refine ⟨by show 2 ≤ sizeLine; decide, fun p hp => ?_⟩
    obtain ⟨I2, e2', s2, hv1⟩ := hv.frz s1
    obtain ⟨n3, s3⟩ := alloc (o := .tup [.ty a, .ty b]) s2 hp
    have n3' : New I1 H1 I1 (upd H1 p (.tup [.ty a, .ty b])) := ⟨Ex.refl _, n3.h, fun _ _ h => .inl h⟩
    have tx := (hv1.mono n3.i).tyx s3 ht
    exact ⟨v, p, _, _, _, c, rfl, upd_same, .cons (.ty a) (.cons (.ty b) .nil), tx, kitAny_of e2, k _ I1 _ (n1.trans n3') (fun q o h => Ex.new hp q o (s1 q o h)) (.bl _)⟩
  · cases e
/-! sorted of numbers -/
def oSortI (x : D) : Option D := match x with
  | .lst ds => (allI ds).map fun ns => .lst ((isort ns).map .int)
  | _ => none
theorem sortI_t : ∀ x z, oSortI x = some z → CallT K (fun v => rSortedI K [v]) x z := fun x z e I H v s hv Q q => by
  unfold oSortI at e
  split at e
  · rename_i ds
    obtain ⟨ns, e1, rfl⟩ := Option.map_eq_some_iff.mp e
    have e2 := allI_eq e1
    subst e2
    obtain ⟨a, xs, rfl, h1, h2⟩ := hv.l s
    have e3 := isA_ints.mp h2
    subst e3
    refine ⟨a, ns, rfl, h1, fun ms p g1 g2 hp => ?_⟩
    have e4 := isort_uniq g1 g2
    subst e4
    obtain ⟨n, s'⟩ := alloc (o := .lst _) s hp
    exact q _ _ _ n s' (.lst (sq_of upd_same) (isA_ints.mpr rfl))
  · cases e
/-! upper -/
def oUpper (x : D) : Option D := match x with
  | .str a => if a.length ≤ 5592405 then some (.str (Txt.upper a)) else none
  | _ => none
theorem pu_upper {f : List T → Option D} (hf : Pu K to f) : Pu K (tM0 (fun x xs H Q => ∃ a, x = V.str a ∧ xs = [] ∧ a.length ≤ 5592405 ∧ Q (V.str (Txt.upper a)) H) to) (pUn oUpper f) := fun γ z e σ I H L w Q k => by
  unfold pUn at e
  replace e := Option.bind_eq_some_iff.mp e
  obtain ⟨x, e1, e⟩ := e
  refine hf γ x e1 σ I H L w _ fun v I1 H1 n1 s1 hv => ?_
  unfold oUpper at e
  split at e
  · split at e
    · rename_i a h
      cases e
      cases hv
      exact ⟨⟨_, rfl⟩, _, rfl, rfl, h, k _ I1 H1 n1 s1 (.str _)⟩
    · cases e
  · cases e
end
end FD

/-! FSI: an own error's __init__ with one field. -/
namespace FD
open PySem PySem.Spec PyProof.Rows L2
structure SupF (K : PySem.W.Frag) (P : Program) (D f : Addr) (st : Stmt) (fd : FuncData) : Prop where
  ex : ∃ (name qual : Str) (dV kV doc pm ct oc ccl cl : Value) (an od cdd cld : Option Addr) (osl ccs csl : Array (Option Value)) (vsf : Array Value) (file : Str) (tf : Tok) (cda cc : Addr) (cd : ClassData),
    fd = PySem.W.ksFn name qual (defArgs st) (defBody st) (defScope st) dV kV doc pm an (.ref cda) ct cc ∧
    List.lookup f K = some { cls := oc, dict := od, data := Data.func fd, slots := osl } ∧ PySem.W.codeIn K (.ref cda) qual = true ∧
    List.lookup cda K = some { cls := ccl, dict := cdd, data := .fields vsf, slots := ccs } ∧ vsf[2]? = some (.str file tf) ∧ (P.main.file == file) = true ∧
    List.lookup cc K = some { cls := cl, dict := cld, data := .cell (some (.ref D)), slots := csl } ∧ PySem.W.clsIn K D = some cd
  main : (List.lookup ("super" : Str) P.main.scope.names).isSome = false
  cls : OexC K D
  st : PySem.W.nsIn K cStatics "thirdparty.any" = some none
  al : PySem.W.ks_superIn K D D "__init__" = some (some (.builtin "ValueError.__init__"))
  sD : PySem.W.subIn K (.ref D) (.ref D) = some true
  sV : PySem.W.subIn K (.ref D) (.type "ValueError") = some true
section
variable {P : Program} {w : PySem.World} {K : PySem.W.Frag} {mg : Str → Option Value} {base : Heap} {CX : CXT}
theorem xinit1 {D f : Addr} {st : Stmt} {fd : FuncData} {m : String} {j : Nat} {p0 p1 p2 p3 p4 p5 q0 q1 q2 q3 : Pos} {pn fn : Str} {ar : Arg} {k : Nat}
    (F : SupF K P D f st fd) (hmg : mg "super" = none)
    (hb : defBody st = [supSt m j p0 p1 p2 p3 p4 p5, .Assign [.Attribute (.Name "self" q0) fn q1] (.Name pn q2) q3])
    (hself : ((defArgs st).posonlyargs ++ (defArgs st).args).head? = some ar) (har : ar.arg = "self")
    (S : NdefX.NScope ["self", pn, "__class__"] ["self", pn] ["__class__"] (defScope st))
    (hks : List.lookup ("super" : Str) (defScope st).names = some .globalImplicit)
    (hfn : PySem.W.findIn K (.ref D) fn = some none)
    (hd1 : (pn == ("__debug__" : Str)) = false) (hd2 : (pn == ("__classdict__" : Str)) = false)
    (hsw : ∀ env : Env, swapsWith (.Name pn q2) (some (.Attribute (.Name "self" q0) fn q1)) q3.line env = pure false)
    (hev : ∀ env : Env, ∃ pl : Sem Bool, eval (.Call (.Attribute (.Call (.Name "super" p0) [] [] p1) "__init__" p2) [.Constant (.str m) j p3] [] p4) env = do
            let ov ← attributeBase (.Call (.Name "super" p0) [] [] p1) "__init__" env (eval (.Call (.Name "super" p0) [] [] p1) env)
            standAt p2.atName
            let __x ← holding [ov] (getMethod ov "__init__" pl)
            match __x with
              | (f, first) => callWith p4 f first (backTo p4 (starEach [.Constant (.str m) j p3] env)) []) :
    FnOk P w K mg base CX (k + 1) f fd ["self", pn] (spXI D [fn]) := by
  obtain ⟨name, qual, dV, kV, doc, pm, ct, oc, ccl, cl, an, od, cdd, cld, osl, ccs, csl, vsf, file, tf, cda, cc, cd, rfl, lk, hcd, hcda, hvs, hfile, hcc, hcl⟩ := F.ex
  rw [hb] at lk ⊢
  refine sup_ok lk hcd hcda hvs hfile F.main hcc hcl F.cls hself (by rw [har]; rfl) S hks hmg F.st F.al F.sD F.sV hev (fun vs H Q E h => ?_) fun A outer s H vs Q E hr h => ?_
  · obtain ⟨a, ws, rfl, h2, _⟩ := h
    simp at h2 ⊢
    omega
  · obtain ⟨a, ws, rfl, h2, h7, h5⟩ := h
    have hv : ∃ v, ws = [v] := by
      cases ws with
      | nil => simp at h2
      | cons v ws => cases ws with
                     | nil => exact ⟨v, rfl⟩
                     | cons => simp at h2
    obtain ⟨v, rfl⟩ := hv
    refine ⟨a, [v], _, rfl, h7, pss_one (ps_ost (pe_var (i := 0) rfl (.inl (S.par _ (by simp)))) (pe_var (i := 1) rfl (.inl (S.par _ (by simp))) hd1 hd2) (hsw _)), ?_⟩
    refine ⟨v, rfl, .ref a, rfl, a, D, rfl, F.cls, hfn, .inl ⟨h7, fun dx hdx hne => ?_⟩⟩
    exact h5 dx hdx hne
end
end FD

/-! FSL: len(set(xs)), xs a list or a tuple of numbers. -/
namespace FD
open PySem PySem.Spec PyProof.Rows L2
def dcount (ns : List Int) : Nat := (firstMet (fun i => ns.getD i 0) ns.length).length
def tLenSetX (K : PySem.W.Frag) (ta : TE) : TE := fun σ H Q => ta σ H fun x H1 => ∃ l ns, x = V.ref l ∧ ns.length < 60 ∧ ((SqL K H1 l (ns.map .int) ∧ dcount ns < 60 ∧ Q (.int (dcount ns : Nat)) H1) ∨ (SqT K H1 l (ns.map .int) ∧ ns.Nodup ∧ Q (.int ns.length) H1))
theorem pe_lenSetX {X : Cx} {a : Expr} {ta : TE} {p p2 q pos : Pos} (hc : X.A.handled = none) (hg : Gl X "len") (hm : X.mg "len" = none) (hg2 : Gl X "set") (hm2 : X.mg "set" = none) (ha : PE X a ta) (na : starEach [a] X.env = (false, eval a X.env) :: starEach [] X.env := by rfl) :
    PE X (.Call (.Name "len" p) [.Call (.Name "set" p2) [a] [] q] [] pos) (tLenSetX X.K ta) where
  run := fun pins s σ H Q I h => by
    refine Call_ (ld_blt I hg hm boot_len (callWith_builtin1 (args_cons (Call_ (ld_blt I hg2 hm2 boot_set (callWith_type1 (args_cons (thn (ha.run pins s σ H _ I h) fun v s1 hh => args_nil ?_) na) na rfl))))))
    obtain ⟨x1, H1, I1, r1, l, ns, rfl, hz, hcase⟩ := hh
    cases (show v = Value.ref l from r1)
    have fin : ∀ {h' : Heap} {tk : Nat} {o : Obj} {es : Array (Int × Value)} {ep : Nat} {t : SetTable} {n : Nat}, (∀ (b : Addr) (u : Obj), s1.heap.get? b = some u → h'.get? b = some u) → h'.get? s1.heap.objs.size = some o → o.ExactSet → o.data = .set es ep t → t.fits es.size = true → es.size = n → n < 60 → Q (.int (n : Nat)) H1 →
        wpAny (model X.prog X.w) X.A (call (.builtin "len") [.ref s1.heap.objs.size]) (EP X pins σ Q) X.xe { heap := h', gens := s1.gens, drawn := s1.drawn, toks := tk, os := s1.os } := fun {h' tk o es ep t n} hk e1 e2 e3 e4 e5 e6 q1 => by
      subst e5
      refine call_len_set e1 e2 e3 e4 (by omega) ⟨.int (es.size : Nat), H1, (I1.kept (h' := h') (t' := tk) hk).tok _, ⟨_, rfl⟩, q1⟩
    rcases hcase with ⟨hq, hb, q1⟩ | ⟨hq, hnd, q1⟩
    · obtain ⟨its, r, pl, _⟩ := I1.list hq
      have hl : its.toArray.size = ns.length := by rw [List.size_toArray, ← Vals.length r, List.length_map]
      refine call_set_list hc pl.isList (by exact Vals.ints r) (by rw [hl]; simp [scanBound]; omega) fun h' tk hS hk => args_nil ?_
      rw [hl] at hS
      obtain ⟨o, es, ep, t, g1, g2, g3, g4, g5, g6, g7, g8⟩ := hS
      exact fin (fun b u e => hk b u (PySem.Heap.lt_size e) e) g1 g2 g3 g7 g8 hb q1
    · obtain ⟨its, r, pl, _⟩ := I1.tuple hq
      have hl : its.toArray.size = ns.length := by rw [List.size_toArray, ← Vals.length r, List.length_map]

      refine call_set_tupI ns hc pl (by exact Vals.ints r) (by simp [scanBound]; omega) fun h' tk c hS hcn hk => args_nil ?_
      obtain ⟨o, es, ep, t, g1, g2, g3, g4, g5, g6, g7, g8, g9, _⟩ := hS
      have hp : (es.toList.map keyOf).Perm ns := (List.perm_ext_iff_of_nodup g5 hnd).mpr fun k => by
        rw [← g6 k]; simp
      have hsz : es.size = ns.length := by
        have := hp.length_eq
        simpa using this
      exact fin hk g1 g2 g3 g8 hsz hz q1
section
variable {K : PySem.W.Frag} {te : TE} {γ : List T}
def oLenSet (x : D) : Option D := match x with
  | .lst ds => (allI ds).bind fun ns => if ns.length < 60 ∧ dcount ns < 60 then some (.int (dcount ns : Nat)) else none
  | .tup ds => (allI ds).bind fun ns => if ns.length < 60 ∧ ns.Nodup then some (.int ns.length) else none
  | _ => none
theorem pu_lenSet {f : List T → Option D} (hf : Cu K te f) : Pu K (tLenSetX K te) (pUn oLenSet f) := fun γ z e σ I H L w Q k => by
  unfold pUn at e
  replace e := Option.bind_eq_some_iff.mp e
  obtain ⟨x, e1, e⟩ := e
  refine hf γ x e1 σ I H L w _ fun v I1 H1 n1 s1 hv => ?_
  unfold oLenSet at e
  split at e
  · replace e := Option.bind_eq_some_iff.mp e
    obtain ⟨ns, e2, e⟩ := e
    split at e
    · rename_i h
      cases e
      have e3 := allI_eq e2
      subst e3
      obtain ⟨a, xs, rfl, h1, h2⟩ := hv.l s1
      have e3 := isA_ints.mp h2
      subst e3
      exact ⟨a, ns, rfl, h.1, .inl ⟨h1, h.2, k _ I1 H1 n1 s1 (.int _)⟩⟩
    · cases e
  · replace e := Option.bind_eq_some_iff.mp e
    obtain ⟨ns, e2, e⟩ := e
    split at e
    · rename_i h
      cases e
      have e3 := allI_eq e2
      subst e3
      obtain ⟨a, xs, rfl, h1, h2⟩ := hv.t s1
      have e3 := isA_ints.mp h2
      subst e3
      exact ⟨a, ns, rfl, h.1, .inr ⟨h1, h.2, k _ I1 H1 n1 s1 (.int _)⟩⟩
    · cases e
  · cases e
end
end FD

/-! FSM: small things for the generator. -/
namespace FD
open PySem PySem.Spec PyProof.Rows L2
section
variable {K : PySem.W.Frag} {wr : List Nat} {W : WX'} {ta tb tc te to td ty tx : TE} {tt tu : TT} {ts tv : TS} {I I' H H' : Hp} {γ γ' : List T} {σ : Sg} {L : List Addr} {t : T} {v : V} {x : D} {C : Addr} {ns : List Str} {fn : Str}
def oIsiO (C : Addr) (x y : D) : Option D := match y with
  | .raw (.ref C') => if C' = C then oIsiC C x else none
  | _ => none
theorem isiO_t (o : IsiO K C) : ∀ x y z, oIsiO C x y = some z → OpT K (fun v w => rIsi K [v, w]) x y z := isiC_t o
/-- {} as data -/
theorem pu_dnew : Pu K tDNewK (pC (.dic [] [])) := fun γ z e σ I H L w Q k => by
  cases e
  intro p hp
  obtain ⟨n, s⟩ := alloc (o := .dK []) w.sub hp
  exact k _ _ _ n s (.dic (kvs := []) (.inl upd_same) rfl .nil)
/-- {'a': i} as data -/
theorem pu_disp1 {a : Str} {i : Int} : Pu K (tDisp [(tC (.str a), tC (.int i))]) (pC (.dic [.inr a] [.int i])) := fun γ z e σ I H L w Q k => by
  cases e
  intro p hp
  refine ⟨upd_same, [(.inr a, .int i)], rfl, by show 1 ≤ 15; decide, ?_⟩
  obtain ⟨n, s⟩ := alloc (o := .dK [(.inr a, .int i)]) w.sub hp
  have hH : upd (upd H p (.dK [])) p (.dK (mergeK [] [(.inr a, .int i)])) = upd H p (.dK [(.inr a, .int i)]) := by
    funext b
    by_cases hb : b = p
    · subst hb; rw [upd_same, upd_same]; rfl
    · rw [upd_ne hb, upd_ne hb, upd_ne hb]
  rw [hH]
  exact k _ _ _ n s (.dic (kvs := [(.inr a, .int i)]) (.inl upd_same) rfl (.cons (.int i) .nil))
theorem lk_nil {c : Value} : ∀ C b, ([] : List (Addr × Bool)).lookup C = some b → PySem.W.exmOne K (.ref C) c = some b := fun C b e => by simp at e
theorem lk_cons {c : Value} {A : Addr} {b0 : Bool} {cs : List (Addr × Bool)} (h : PySem.W.exmOne K (.ref A) c = some b0) (r : ∀ C b, cs.lookup C = some b → PySem.W.exmOne K (.ref C) c = some b) : ∀ C b, ((A, b0) :: cs).lookup C = some b → PySem.W.exmOne K (.ref C) c = some b := fun C b e => by
  rw [List.lookup_cons] at e
  split at e
  · rename_i hb
    cases e
    rw [eq_of_beq hb]
    exact h
  · exact r C b e
/-- where no error gets out -/
def sNoX (f : List T → Option O) : List T → Option O := fun γ => (f γ).bind fun o => match o with
  | .xc _ _ _ => none
  | o => some o
theorem rs_noX {f : List T → Option O} (h : RunS K wr (fun _ _ _ _ => False) ts f) : RunS K wr W ts (sNoX f) := fun γ o e σ I H L w Dn p => by
  unfold sNoX at e
  replace e := Option.bind_eq_some_iff.mp e
  obtain ⟨o1, e1, e⟩ := e
  refine h γ o1 e1 σ I H L w Dn ?_
  cases o1 with
  | nx γ1 => cases e; exact p
  | rt r γ1 => cases e; exact p
  | bk γ1 => cases e; exact p
  | ct γ1 => cases e; exact p
  | xc C fs γ1 => cases e
end
end FD

/-! FSH: try with many handlers, some with a name. -/
namespace FD
open PySem PySem.Spec PyProof.Rows L2
abbrev HdL := List (Option Nat × Value × (Addr → Value → Option Addr → TS))
inductive HdsX (X : Cx) : List ExceptHandler → HdL → Prop
  | nil : HdsX X [] []
  | only {x : Str} {c : Value} {ts : Addr → Value → Option Addr → TS} {b₀ : Stmt} {suite : List Stmt} {np pos' : Pos} {hds : List ExceptHandler} {l : HdL} : Names X x c →
    (∀ (a : Addr) (oe : Obj) (cls : Value) (d : Option Addr) (pn : List (Addr × Obj)), Zc cls d oe → (∃ vs, oe.data = Data.fields vs) → PSs (X.suite a ((a, oe) :: pn)) (b₀ :: suite) (ts a cls d)) →
    HdsX X hds l → HdsX X (.ExceptHandler (some (.Name x np)) none (b₀ :: suite) pos' :: hds) ((none, c, ts) :: l)
  | as_ {x n : Str} {i : Nat} {c : Value} {ts : Addr → Value → Option Addr → TS} {b₀ : Stmt} {suite : List Stmt} {np pos' : Pos} {hds : List ExceptHandler} {l : HdL} : X.N.Nodup → X.N[i]? = some n → X.env.kindOf n = some NameKind.local → Names X x c →
    (∀ (a : Addr) (oe : Obj) (cls : Value) (d : Option Addr) (pn : List (Addr × Obj)), Zc cls d oe → (∃ vs, oe.data = Data.fields vs) → PSs (X.suite a ((a, oe) :: pn)) (b₀ :: suite) (ts a cls d)) →
    HdsX X hds l → HdsX X (.ExceptHandler (some (.Name x np)) (some n) (b₀ :: suite) pos' :: hds) ((some i, c, ts) :: l)
def wHds (K : PySem.W.Frag) (Wout : WX) (D : Ends) : HdL → WX
  | [] => Wout
  | (none, c, ts) :: l => fun cls d σ H => ∃ b, PySem.W.exmOne K cls c = some b ∧ (b = true → ∀ a, H a = none → ts a cls d D σ H) ∧ (b = false → wHds K Wout D l cls d σ H)
  | (some i, c, ts) :: l => fun cls d σ H => ∃ b, PySem.W.exmOne K cls c = some b ∧ (b = true → ∀ a, H a = none → ts a cls d { nx := fun σ' H' => D.nx (σ'.set i none) H', rt := D.rt, bk := fun σ' H' => D.bk (σ'.set i none) H', ct := fun σ' H' => D.ct (σ'.set i none) H' } (σ.set i (some (.ref a))) H) ∧ (b = false → wHds K Wout D l cls d σ H)
theorem names_ld {X : Cx} {x : Str} {c : Value} (hc : Names X x c) {pn : List (Addr × Obj)} {pins : List (Addr × Obj)} {σ : L2.St} {H : Hp} {s : Shared} {a : Addr} {np : Pos} {Q : Value → Shared → Prop} {E : Value → Shared → Prop} (S : L2.Inv (X.suite a pn) pins σ H s) (q : Q c s) : wpAny (model X.prog X.w) (X.suite a pn).A (eval (.Name x np) X.env) Q E s := by
  obtain ⟨hg, hdb, h⟩ := hc
  rcases h with hm | ⟨hm, hv, hnn⟩
  · exact ld_glob S hg hm q hdb
  · exact ld_blt S hg hm hv q hnn hdb
theorem hds_core {X : Cx} {pins : List (Addr × Obj)} {D : Ends} {Wout : WX} (hs : X.stack = X.env :: X.outer) (hf : X.env.frame = some X.env.locals) (ok : X.Ok) (tk : Takes X Wout) {a : Addr} {B : Heap} {sI : Shared} {σ' : L2.St} {H' : Hp} {cls : Value} {d : Option Addr} (J : L2.Inv X pins σ' H' sI) (nb : ∀ (b : Addr) (o : Obj), sI.heap.get? b = some o → ¬b ∈ frs X.stack → B.get? b = some o) (na : H' a = none)
    {hds : List ExceptHandler} {l : HdL} (hx : HdsX X hds l) : ∀ {s3 : Shared}, sI.heap.UpToSlots s3.heap → s3.os = sI.os → AllBare s3.gens → HandSPX.FlyingZ B (X.env :: X.outer) a (Zc cls d) s3.heap → wHds X.K Wout D l cls d σ' H' → wpAny (model X.prog X.w) X.A (handleBy (.ref a) X.env hds) (SP X pins D) X.xe s3 := by
  induction hx with
  | nil =>
    intro s3 up os ag fl hW
    obtain ⟨k1, k2, k3, oe, vs, T, oT, ts', he, hz, hd, h1, hr⟩ := id fl
    refine wpAny_handleBy_nil ?_
    unfold PySem.passOn
    refine wpAny_bind (wpAny_field he hd h1 ?_)
    dsimp only
    rw [if_neg (fun h => by cases eq_of_beq h)]
    rw [hf]
    refine wpAny_bind (HandSPX.setFlight_upZ fl fun h4 hh4 up4 => wpAny_throw (tk (.ref a) _ ⟨a, B, sI, pins, σ', H', cls, d, rfl, J, nb, Heap.UpToSlots.trans up up4, ?_, na, os, ag, hW⟩))
    rw [hs]
    exact .inr (.inr hh4)
  | @only x c ts b₀ suite np pos' hds l hc hsu hr ih =>
    intro s3 up os ag fl hW
    have J3 := Inv.landed J nb fl.1 up os ag
    obtain ⟨oe3, vs3, he3, hz3, hd3⟩ := HandSPX.FlyingZ.there fl
    have notFr : ∀ {h : Heap} {o : Obj} {vs : Array Value}, h.FunFrames B (X.env :: X.outer) → h.get? a = some o → o.data = .fields vs → a ∈ frs (X.env :: X.outer) → False := fun {h o vs} ff e dd hm => by
      obtain ⟨_, o', e', hnf⟩ := Heap.FunFrames.mem ff hm
      rw [e] at e'
      cases e'
      exact hnf vs dd
    have nfr := notFr fl.2.2.1 he3 hd3
    have nL : a ≠ X.env.locals := fun z => nfr (List.mem_filterMap.mpr ⟨X.env, List.mem_cons_self, by rw [hf, z]⟩)
    have nF : ¬ a ∈ X.fs := fun hm => by
      obtain ⟨e, he, q⟩ := List.mem_filterMap.mp hm
      exact nfr (List.mem_filterMap.mpr ⟨e, List.mem_cons_of_mem _ he, q⟩)
    have S3 := Inv.suite J3 he3 hd3 na nL nF
    obtain ⟨b, hb1, hyes, hno⟩ := hW
    have LT : PySem.W.Looks (model X.prog X.w) s3.heap (typeOf (.ref a)) cls := fun A Q E s k q => wpAny_typeOf_ref (k a oe3 he3) (by rw [hz3.1]; exact q)
    have LM := PySem.W.exm_one (Inv.kIn J3) LT hb1
    refine wpAny_handleBy_cons (codeAny_handlers_test (names_ld hc S3 (PySem.W.Looks.here LM ?_))) (fun h => by cases h)
    cases b with
    | false => exact ih up os ag fl (hno rfl)
    | true =>
      refine codeAny_handlers_suite (HandSPX.lands_againZ fl fun h4 fl4 up4 => ?_)
      have J4 := Inv.landed (s' := { heap := h4, gens := s3.gens, drawn := s3.drawn, toks := s3.toks, os := s3.os }) J nb fl4.1 (Heap.UpToSlots.trans up up4) os ag
      obtain ⟨oe4, vs4, he4, hz4, hd4⟩ := HandSPX.FlyingZ.there fl4
      have S4 := Inv.suite J4 he4 hd4 na nL nF
      refine wpAny_mono ((hsu a oe4 cls d (X.pn ++ pins) hz4 ⟨vs4, hd4⟩).run [] _ σ' H' D S4 (hyes rfl a na)) (fun f s6 hsp => ?_) (fun e s h => h.elim)
      cases f with
      | next => obtain ⟨σ6, H6, S6, q6⟩ := hsp; exact ⟨σ6, H6, Inv.unsuite S6 ok, q6⟩
      | brk => obtain ⟨σ6, H6, S6, q6⟩ := hsp; exact ⟨σ6, H6, Inv.unsuite S6 ok, q6⟩
      | cont => obtain ⟨σ6, H6, S6, q6⟩ := hsp; exact ⟨σ6, H6, Inv.unsuite S6 ok, q6⟩
      | ret u => obtain ⟨v, σ6, H6, S6, r6, q6⟩ := hsp; exact ⟨v, σ6, H6, Inv.unsuite S6 ok, r6, q6⟩
  | @as_ x n i c ts b₀ suite np pos' hds l hN hi hln hc hsu hr ih =>
    intro s3 up os ag fl hW
    have J3 := Inv.landed J nb fl.1 up os ag
    obtain ⟨oe3, vs3, he3, hz3, hd3⟩ := HandSPX.FlyingZ.there fl
    have notFr : ∀ {h : Heap} {o : Obj} {vs : Array Value}, h.FunFrames B (X.env :: X.outer) → h.get? a = some o → o.data = .fields vs → a ∈ frs (X.env :: X.outer) → False := fun {h o vs} ff e dd hm => by
      obtain ⟨_, o', e', hnf⟩ := Heap.FunFrames.mem ff hm
      rw [e] at e'
      cases e'
      exact hnf vs dd
    have nfr := notFr fl.2.2.1 he3 hd3
    have nL : a ≠ X.env.locals := fun z => nfr (List.mem_filterMap.mpr ⟨X.env, List.mem_cons_self, by rw [hf, z]⟩)
    have nF : ¬ a ∈ X.fs := fun hm => by
      obtain ⟨e, he, q⟩ := List.mem_filterMap.mp hm
      exact nfr (List.mem_filterMap.mpr ⟨e, List.mem_cons_of_mem _ he, q⟩)
    have S3 := Inv.suite J3 he3 hd3 na nL nF
    obtain ⟨b, hb1, hyes, hno⟩ := hW
    have LT : PySem.W.Looks (model X.prog X.w) s3.heap (typeOf (.ref a)) cls := fun A Q E s k q => wpAny_typeOf_ref (k a oe3 he3) (by rw [hz3.1]; exact q)
    have LM := PySem.W.exm_one (Inv.kIn J3) LT hb1
    refine wpAny_handleBy_cons (codeAny_handlers_test (names_ld hc S3 (PySem.W.Looks.here LM ?_))) (fun h => by cases h)
    cases b with
    | false => exact ih up os ag fl (hno rfl)
    | true =>
      refine codeAny_handlers_suite_as (HandSPX.lands_againZ fl fun h4 fl4 up4 => ?_)
      have J4 := Inv.landed (s' := { heap := h4, gens := s3.gens, drawn := s3.drawn, toks := s3.toks, os := s3.os }) J nb fl4.1 (Heap.UpToSlots.trans up up4) os ag
      obtain ⟨oe4, vs4, he4, hz4, hd4⟩ := HandSPX.FlyingZ.there fl4
      have S4 := Inv.suite J4 he4 hd4 na nL nF
      refine store_ok (X := X.suite a ((a, oe4) :: (X.pn ++ pins))) (v := .ref a) S4 hN hi (.inl hln) rfl (fun s5 S5 => ?_) (.inr hln)
      have end_ : ∀ {σ6 : L2.St} {H6 : Hp} {s6 : Shared} {pos : Pos} {Q : Unit → Shared → Prop}, L2.Inv (X.suite a ((a, oe4) :: (X.pn ++ pins))) [] σ6 H6 s6 → (∀ s', L2.Inv X pins (σ6.set i none) H6 s' → Q () s') → wpAny (model X.prog X.w) X.A (do
                bindName X.env n Value.none
                unbindBehindTheSuite X.env n pos) Q X.xe s6 := fun S6 hq => gone_ok (Inv.unsuite S6 ok) hN hi hln hq
      refine wpAny_mono ((hsu a oe4 cls d (X.pn ++ pins) hz4 ⟨vs4, hd4⟩).run [] _ (σ'.set i (some (.ref a))) H' _ S5 (hyes rfl a na)) (fun f s6 hsp => ?_) (fun e s h => h.elim)
      cases f with
      | next => obtain ⟨σ6, H6, S6, q6⟩ := hsp; exact end_ S6 fun s7 J7 => ⟨_, H6, J7, q6⟩
      | brk => obtain ⟨σ6, H6, S6, q6⟩ := hsp; exact end_ S6 fun s7 J7 => ⟨_, H6, J7, q6⟩
      | cont => obtain ⟨σ6, H6, S6, q6⟩ := hsp; exact end_ S6 fun s7 J7 => ⟨_, H6, J7, q6⟩
      | ret u => obtain ⟨v, σ6, H6, S6, r6, q6⟩ := hsp; exact end_ S6 fun s7 J7 => ⟨v, _, H6, J7, r6, q6⟩
theorem ps_try_hds {X : Cx} {body : List Stmt} {h₀ : ExceptHandler} {hds : List ExceptHandler} {l : HdL} {pos : Pos} {tb : WX → TS} {Wout : WX} (hs : X.stack = X.env :: X.outer) (hf : X.env.frame = some X.env.locals) (tk : Takes X Wout)
    (hb : ∀ (W : WX) (pn : List (Addr × Obj)) (xe : Value → Shared → Prop), Takes (X.tr pn xe) W → PassesOwn (model X.prog X.w) X.A X.env xe → PSs (X.tr pn xe) body (tb W)) (hx : HdsX X (h₀ :: hds) l) :
    PS X (.Try body (h₀ :: hds) [] [] pos) (fun D σ H => tb (wHds X.K Wout D l) D σ H) where
  run := fun pins s σ H D I h => by
    have ok := I.ok
    have hfr : X.A.frames = some (X.env :: X.outer) := by rw [ok.frames, hs]
    refine wpAny_Try_except (wpAny_mono ((hb (wHds X.K Wout D l) (X.pn ++ pins) (fun e s₁ => wpAny (model X.prog X.w) X.A (noteFrame e X.env) (fun _ s₂ => wpAny (model X.prog X.w) X.A (setFlight e none) (fun _ s₃ => wpAny (model X.prog X.w) X.A (handleBy e X.env (h₀ :: hds)) (SP X pins D) X.xe s₃) X.xe s₂) X.xe s₁) (fun u s' xx => ?_) PassesOwn.looking).run [] s σ H D (Inv.toTry I _) h) (fun f s1 hsp => ?_) fun e s1 he => he)
    · obtain ⟨a, B, sI, pins', σ', H', cls, d, rfl, J', nb, up, sky, na, os, ag, hW⟩ := xx
      have J := Inv.ofTry J' ok
      have sky' : Sky B (X.env :: X.outer) a (Zc cls d) X.env.locals s'.heap := by
        have : Sky B X.stack a (Zc cls d) X.env.locals s'.heap := sky
        rw [hs] at this
        exact this
      exact Sky.land Zc.steady hfr hf sky' fun h3 fl3 up3 => hds_core hs hf ok tk J nb na hx (Heap.UpToSlots.trans up up3) os ag fl3 hW
    · cases f with
      | next => obtain ⟨σ', H', J', q⟩ := hsp; exact wpAny_execs_nil ⟨σ', H', Inv.ofTry J' ok, q⟩
      | brk => obtain ⟨σ', H', J', q⟩ := hsp; exact ⟨σ', H', Inv.ofTry J' ok, q⟩
      | cont => obtain ⟨σ', H', J', q⟩ := hsp; exact ⟨σ', H', Inv.ofTry J' ok, q⟩
      | ret u => obtain ⟨v, σ', H', J', r, q⟩ := hsp; exact ⟨v, σ', H', Inv.ofTry J' ok, r, q⟩
abbrev HdF := List (List (Addr × Bool) × Option Nat × (Addr → List (Str × D) → List T → Option O))
def hRun : HdF → Addr → List (Str × D) → List T → Option O
  | [], C, fs, γ => some (.xc C fs γ)
  | (cs, none, fh) :: l, C, fs, γ => match cs.lookup C with
    | some true => fh C fs γ
    | some false => hRun l C fs γ
    | none => none
  | (cs, some i, fh) :: l, C, fs, γ => match cs.lookup C with
    | some true => if i < γ.length then (fh C fs (γ.set i .em)).bind (oCl i) else none
    | some false => hRun l C fs γ
    | none => none
def sTryH (l : HdF) (fb : List T → Option O) : List T → Option O := fun γ => (fb γ).bind fun o => match o with
  | .xc C fs γ1 => hRun l C fs γ1
  | o => some o
section
variable {K : PySem.W.Frag} {wr : List Nat} {W : WX'} {I I' H H' : Hp} {γ γ' : List T} {σ : Sg} {L : List Addr}
inductive HdR (K : PySem.W.Frag) (wr : List Nat) (Wout : WX') : HdL → HdF → Prop
  | nil : HdR K wr Wout [] []
  | only {c : Value} {ts : Addr → Value → Option Addr → TS} {cs : List (Addr × Bool)} {fh : List T → Option O} {l : HdL} {fl : HdF} : (∀ C b, cs.lookup C = some b → PySem.W.exmOne K (.ref C) c = some b) → (∀ a cls d, RunS K wr Wout (ts a cls d) fh) → HdR K wr Wout l fl → HdR K wr Wout ((none, c, ts) :: l) ((cs, none, fun _ _ => fh) :: fl)
  | as_ {i : Nat} {c : Value} {ts : Addr → Value → Option Addr → TS} {cs : List (Addr × Bool)} {fh : Addr → List (Str × D) → List T → Option O} {l : HdL} {fl : HdF} : i ∈ wr → (∀ C b, cs.lookup C = some b → PySem.W.exmOne K (.ref C) c = some b) → RunH K wr (fun _ _ _ _ => False) i ts fh → HdR K wr Wout l fl → HdR K wr Wout ((some i, c, ts) :: l) ((cs, some i, fh) :: fl)
theorem hds_run {Wout : WX} {Dn : Ends} {C : Addr} {fs : List (Str × D)} {d : Addr} {l : HdL} {fl : HdF} (h : HdR K wr Wout l fl) : ∀ {γ : List T} {o : O} {σ : Sg} {I H : Hp} {L : List Addr}, hRun fl C fs γ = some o → WS K γ σ I H L → XAt K I H L d fs → PostS K wr Wout Dn σ I H L o → wHds K Wout Dn l (.ref C) (some d) σ H := by
  induction h with
  | nil =>
    intro γ o σ I H L e w x p
    cases e
    exact p d σ I H L w (Step.refl _ _ _) (.refl σ) x
  | @only c ts cs fh l fl hcs hs hr ih =>
    intro γ o σ I H L e w x p
    unfold hRun at e
    cases e2 : cs.lookup C with
    | none => rw [e2] at e; cases e
    | some b =>
      rw [e2] at e
      refine ⟨b, hcs C b e2, fun h b' hb' => ?_, fun h => ?_⟩
      · subst h
        exact hs _ _ _ γ o e σ I H L w Dn p
      · subst h
        exact ih e w x p
  | @as_ i c ts cs fh l fl hi hcs hs hr ih =>
    intro γ o σ I H L e w x p
    unfold hRun at e
    cases e2 : cs.lookup C with
    | none => rw [e2] at e; cases e
    | some b =>
      rw [e2] at e
      refine ⟨b, hcs C b e2, fun h b' hb' => ?_, fun h => ?_⟩
      · subst h
        dsimp only at e
        split at e
        · rename_i hlt
          replace e := Option.bind_eq_some_iff.mp e
          obtain ⟨o2, e3, e⟩ := e
          obtain ⟨L2, w2, s2⟩ := w.setE (some (.ref b')) i
          have hl : i < σ.length := by rw [← w.env.len]; exact hlt
          have ag : Agr wr σ (σ.set i (some (.ref b'))) := .set hi
          have back : ∀ {γ2 : List T} {σ2 : Sg} {I2 H2 : Hp} {L3 : List Addr}, WS K γ2 σ2 I2 H2 L3 → ∃ L4, WS K (γ2.set i .em) (σ2.set i none) I2 H2 L4 ∧ Step I2 H2 L3 I2 H2 L4 := fun w => w.setE none i
          refine hs C fs _ o2 e3 b' d _ I H L2 w2 (by rw [List.getElem?_set_self hl]) (x.move w2 s2) _ ?_
          cases o2 with
          | nx γ2 =>
            cases e
            intro σ2 I2 H2 L3 w3 s3 a3
            obtain ⟨L4, w4, s4⟩ := back w3
            exact p _ I2 H2 L4 w4 ((s2.trans s3).trans s4) ((ag.trans a3).trans (.set hi))
          | bk γ2 =>
            cases e
            intro σ2 I2 H2 L3 w3 s3 a3
            obtain ⟨L4, w4, s4⟩ := back w3
            exact p _ I2 H2 L4 w4 ((s2.trans s3).trans s4) ((ag.trans a3).trans (.set hi))
          | ct γ2 =>
            cases e
            intro σ2 I2 H2 L3 w3 s3 a3
            obtain ⟨L4, w4, s4⟩ := back w3
            exact p _ I2 H2 L4 w4 ((s2.trans s3).trans s4) ((ag.trans a3).trans (.set hi))
          | rt r γ2 =>
            cases e
            intro v σ2 I2 H2 L3 w3 s3 a3
            exact p v σ2 I2 H2 L3 w3 (s2.trans s3) (ag.trans a3)
          | xc C2 fs2 γ2 => cases e
        · cases e
      · subst h
        exact ih e w x p
theorem rs_try_hds {tb : WX → TS} {l : HdL} {fl : HdF} {fb : List T → Option O} {Wout : WX} (hb : ∀ W, RunS K wr W (tb W) fb) (hs : HdR K wr Wout l fl) : RunS K wr Wout (fun D σ H => tb (wHds K Wout D l) D σ H) (sTryH fl fb) := fun γ o e σ I H L w Dn p => by
  unfold sTryH at e
  replace e := Option.bind_eq_some_iff.mp e
  obtain ⟨o1, e1, e⟩ := e
  refine hb _ γ o1 e1 σ I H L w Dn ?_
  cases o1 with
  | nx γ1 => cases e; exact p
  | rt r γ1 => cases e; exact p
  | bk γ1 => cases e; exact p
  | ct γ1 => cases e; exact p
  | xc C fs γ1 =>
    intro d σ' I' H' L' w' s' a' hx
    exact hds_run hs e w' hx (p.later s' a')
end
end FD

/-! FSK: facts of classes put together. -/
namespace FD
open PySem PySem.Spec PyProof.Rows L2
theorem cb_of {K : PySem.W.Frag} {C : Addr} (ic : PySem.W.isClsIn K C = true) (ty : PySem.W.typeIn K (.ref C) = some (.type "type")) : ∀ T ∈ ["NoneType", "bool", "int", "str", "list", "tuple", "dict"], PySem.W.kitOne K (.type T) (.ref C) = some false := by
  have e : ((PySem.W.clsIn K C).isSome && PySem.W.typeIn K (.ref C) == some (.type "type")) = true := by
    rw [show (PySem.W.clsIn K C).isSome = true from ic, ty]
    rfl
  intro T hT
  have k : ∀ T : String, PySem.W.subIn K (.type T) (.ref C) = some false → PySem.W.kitOne K (.type T) (.ref C) = some false := fun T h => by
    unfold PySem.W.kitOne PySem.W.kitCls
    rw [if_neg (show ¬ (Value.type T == Value.ref C) = true from fun z => by simp at z)]
    exact (if_pos e).trans h
  simp only [List.mem_cons, List.not_mem_nil, or_false] at hT
  rcases hT with rfl | rfl | rfl | rfl | rfl | rfl | rfl <;> exact k _ rfl
theorem find_cls {K : PySem.W.Frag} {B : Addr} {cd : ClassData} {name : Str} (h : PySem.W.clsIn K B = some cd) : PySem.W.findIn K (.ref B) name = PySem.W.alongIn K name cd.mro := by
  unfold PySem.W.clsIn at h
  split at h
  · rename_i e
    cases h
    unfold PySem.W.findIn
    dsimp only
    rw [e]
  · cases h
theorem sup_al {K : PySem.W.Frag} {D B : Addr} {cd cdB : ClassData} {name : Str} {r : Option (Option Value)} (hD : PySem.W.clsIn K D = some cd) (hB : PySem.W.clsIn K B = some cdB) (hm : cd.mro = .ref D :: cdB.mro) (hf : PySem.W.findIn K (.ref B) name = r) : PySem.W.ks_superIn K D D name = r := by
  unfold PySem.W.ks_superIn
  rw [hD, ← hf, find_cls hB]
  simp [hm]
end FD

/-! FSR: [x, y] * n. -/
namespace FD
open PySem PySem.Spec PyProof.Rows L2
section
variable {K : PySem.W.Frag} {te : TE} {tr : TA}
theorem IsA.rep {I : Hp} {vs : List V} {ds : List D} (h : IsA K I vs ds) : ∀ k : Nat, IsA K I (List.replicate k vs).flatten (List.replicate k ds).flatten
  | 0 => .nil
  | k + 1 => by
    rw [List.replicate_succ, List.replicate_succ, List.flatten_cons, List.flatten_cons]
    exact h.append (IsA.rep h k)
def pRep (g : List T → Option (List D)) (f : List T → Option D) : List T → Option D := fun γ => (g γ).bind fun xs => (f γ).bind fun y => match y with
  | .int k => if xs.length ≤ sizeLine ∧ k ≤ 1000000 ∧ -1000000 ≤ k ∧ xs.length * k.toNat ≤ sizeLine then some (.lst (List.replicate k.toNat xs).flatten) else none
  | _ => none
@[simp] theorem pRep_app (g : List T → Option (List D)) (f : List T → Option D) (γ : List T) : pRep g f γ = (g γ).bind fun xs => (f γ).bind fun y => match y with
  | .int k => if xs.length ≤ sizeLine ∧ k ≤ 1000000 ∧ -1000000 ≤ k ∧ xs.length * k.toNat ≤ sizeLine then some (.lst (List.replicate k.toNat xs).flatten) else none
  | _ => none := rfl
theorem pu_rep {g : List T → Option (List D)} {f : List T → Option D} (hg : PuA K tr g) (hf : Pu K te f) : Pu K (tOp rRep (tLst tr) te) (pRep g f) := fun γ z e σ I H L w Q k => by
  unfold pRep at e
  obtain ⟨xs, e1, e⟩ := Option.bind_eq_some_iff.mp e
  obtain ⟨y, e2, e⟩ := Option.bind_eq_some_iff.mp e
  split at e
  · rename_i j
    split at e
    · rename_i h
      obtain ⟨h1, h2, h3, h4⟩ := h
      cases e
      refine hg γ xs e1 σ I H L w _ fun vs I1 H1 n1 s1 hv => ⟨by rw [hv.length]; exact h1, fun p hp => ?_⟩
      obtain ⟨n2, s2⟩ := alloc (o := .lst vs) s1 hp
      refine hf γ _ e2 σ _ _ L (w.new (n1.trans n2) s2) _ fun v I3 H3 n3 s3 hv3 => ?_
      cases hv3
      refine ⟨p, j, vs, rfl, rfl, n3.h _ _ upd_same, by omega, by omega, by rw [hv.length]; exact h4, fun q hq => ?_⟩
      obtain ⟨n4, s4⟩ := alloc (o := .lst (List.replicate j.toNat vs).flatten) s3 hq
      exact k _ _ _ (((n1.trans n2).trans n3).trans n4) s4 (.lst (sq_of upd_same) (((hv.mono n2.i).mono n3.i).mono n4.i |>.rep _))
    · cases e
  · cases e
end
end FD

namespace G00
open PySem PySem.Spec PyProof.Rows L2 FD
def topS (i : Nat) : Stmt := PySem.Challenge.pw_filedalike_k00_letters_made_and_refused.main.body.getD i (.Pass ⟨0, 0, 0, 0⟩)
def methS (i j : Nat) : Stmt := match topS i with
  | .ClassDef (body := b) .. => b.getD j (.Pass ⟨0, 0, 0, 0⟩)
  | _ => .Pass ⟨0, 0, 0, 0⟩
section
variable {P : Program} {w : PySem.World} {K : PySem.W.Frag} {mg : Str → Option Value} {base : Heap} {cl : Nat → Addr}
abbrev s_law_bag : Stmt := topS 23
theorem sc_law_bag : FnScope ["_law_script", "_law_at", "_law_cell", "_law_blend", "_law_k", "_law_each"] ["_law_script", "_law_at"] (defScope s_law_bag) := ⟨rfl, rfl, rfl, by decide +kernel, rfl, by decide +kernel, by decide +kernel⟩

def b_law_bag (cl : Nat → Addr) : List T → Option O :=
  (sSeq (sAsgD 2 (eP (pIf (pTest (pOp oLt (pVar 1) (pUn oLen (pVar 0)))) (pOp oIx (pVar 0) (pVar 1)) (pC (.int 0)))))
  (sSeq (sAsgD 3 (eP (pOp oAdd (pOp oMul (pC (.int 7129)) (pVar 1)) (pC (.int 613)))))
  (sSeq (sFor (iP (iEn (pSl oSl (pVar 0) oNone (oSome (pC (.int 40)))))) (gTp 2 (gCn (gN 4) (gCn (gN 5) gNl)))
  (sAsgD 3 (eP (pOp oMod (pUn oInt (pOp oAdd (pOp oAdd (pOp oAdd (pOp oMul (pVar 3) (pC (.int 50021))) (pOp oMod (pUn oInt (pVar 5)) (pC (.int 2147483563)))) (pOp oMul (pC (.int 37)) (pVar 4))) (pC (.int 5)))) (pC (.int 2147483563))))))
  (sRet (eLst [none, none] (aCons (eP (pIf (pTest (pOp oGe (pUn oAbs (pVar 2)) (pOp oPow (pC (.int 10)) (pC (.int 18))))) (pUn oAbs (pVar 2)) (pC (.int 0)))) (aCons (eP (pVar 3)) aNil)))))))
def f_law_bag (cl : Nat → Addr) : FN := fnF 2 6 [2, 3, 4, 5] (b_law_bag cl)

theorem ok_law_bag {f : Addr} {fd : FuncData} (F : Fun K "_law_bag" "_law_bag" s_law_bag f fd) (m_abs : mg "abs" = none) (m_enumerate : mg "enumerate" = none) (m_int : mg "int" = none) (m_len : mg "len" = none) : FnOk P w K mg base CX0 1 f fd ["_law_script", "_law_at"] (spF K (f_law_bag cl)) :=
  okF F sc_law_bag rfl rfl (by decide) fun cdv A outer s H E hr => ⟨_, (pss_cons (ps_set (i := 2) sc_law_bag.nd rfl (.inl rfl) (pe_ifExp (pt_cmpR op_ltA (pv 1) (pe_callB call_lenA rfl m_len (by decide +kernel) (pa_cons (pv 0) pa_nil)) (nomark _)) (pe_ix ix_seq (pv 0) (pv 1) (fun _ _ => rfl)) pe_int))
      (pss_cons (ps_set (i := 3) sc_law_bag.nd rfl (.inl rfl) (pe_op op_addA (pe_op op_mulW pe_int (pv 1)) pe_int))
      (pss_cons (ps_for PassesOwn.never rfl (pi_enum rfl m_enumerate (pa_cons (pe_slice sl_any (pv 0) po_none (po_some pe_int)) pa_nil)) (pg_tup rfl (pgs_cons (pg_name (i := 4) sc_law_bag.nd rfl (.inl rfl)) (pgs_cons (pg_name (i := 5) sc_law_bag.nd rfl (.inl rfl)) pgs_nil)))
      (pss_one (ps_set (i := 3) sc_law_bag.nd rfl (.inl rfl) (pe_op op_mod (pe_callTy call_int1 rfl m_int (by decide +kernel) (pa_cons (pe_op op_addA (pe_op op_addA (pe_op op_addA (pe_op op_mulW (pv 3) pe_int) (pe_op op_mod (pe_callTy call_int1 rfl m_int (by decide +kernel) (pa_cons (pv 5) pa_nil)) pe_int)) (pe_op op_mulW pe_int (pv 4))) pe_int) pa_nil)) pe_int))))
      (pss_one (ps_ret (pe_lst (pa_cons (pe_ifExp (pt_cmpR op_geA (pe_callB call_abs rfl m_abs (by decide +kernel) (pa_cons (pv 2) pa_nil)) (pe_op op_pow pe_int pe_int) (nomark _)) (pe_callB call_abs rfl m_abs (by decide +kernel) (pa_cons (pv 2) pa_nil)) pe_int) (pa_cons (pv 3) pa_nil)))))))),
    (rs_seq (rs_asgD (ef_p (pu_if (put_test (pu_op (Pu.c (pu_var 1)) (Pu.c (pu_call1 (Pu.c (pu_var 0)) len_t)) lt_t)) (pu_op (Pu.c (pu_var 0)) (Pu.c (pu_var 1)) ix_t) pu_int)) (by decide))
      (rs_seq (rs_asgD (ef_p (pu_op (Pu.c (pu_op (Pu.c pu_int) (Pu.c (pu_var 1)) mul_t)) (Pu.c pu_int) add_t)) (by decide))
      (rs_seq (rs_for (ite_p (its_enum (fz := true) (pu_sl (Pu.c (pu_var 0)) puo_none (puo_some pu_int) sl_t))) (rg_tp (rgs_cons (rg_n (by decide)) (rgs_cons (rg_n (by decide)) rgs_nil)))
      (rs_asgD (ef_p (pu_op (Pu.c (pu_call1 (Pu.c (pu_op (Pu.c (pu_op (Pu.c (pu_op (Pu.c (pu_op (Pu.c (pu_var 3)) (Pu.c pu_int) mul_t)) (Pu.c (pu_op (Pu.c (pu_call1 (Pu.c (pu_var 5)) int_t)) (Pu.c pu_int) mod_t)) add_t)) (Pu.c (pu_op (Pu.c pu_int) (Pu.c (pu_var 4)) mul_t)) add_t)) (Pu.c pu_int) add_t)) int_t)) (Pu.c pu_int) mod_t)) (by decide)))
      (rs_ret (ef_lst (efa_cons (ef_p (pu_if (put_test (pu_op (Pu.c (pu_call1 (Pu.c (pu_var 2)) abs_t)) (Pu.c (pu_op (Pu.c pu_int) (Pu.c pu_int) pow_t)) ge_t)) (pu_call1 (Pu.c (pu_var 2)) abs_t) pu_int)) (efa_cons (ef_p (pu_var 3)) efa_nil)))))))⟩

abbrev s_law_take : Stmt := topS 24
theorem sc_law_take : FnScope ["_law_bag_here", "_law_many", "_law_digit"] ["_law_bag_here", "_law_many"] (defScope s_law_take) := ⟨rfl, rfl, rfl, by decide +kernel, rfl, by decide +kernel, by decide +kernel⟩

def b_law_take (cl : Nat → Addr) : List T → Option O :=
  (sSeq (sIf (eT (pTest (pOp oGt (pOp oIx (cVar 0) (pC (.int 0))) (pC (.int 0)))))
  (sSeq (sAsgD 2 (eP (pOp oMod (pUn oInt (pOp oIx (cVar 0) (pC (.int 0)))) (pVar 1))))
  (sSeq (sSetI 0 (eP (pOp oDiv (pOp oIx (cVar 0) (pC (.int 0))) (pVar 1))) (pC (.int 0)))
  (sRet (eP (pVar 2)))))
  sNext)
  (sSeq (sSetI 0 (eP (pOp oMod (pUn oInt (pOp oAdd (pOp oMul (pOp oIx (cVar 0) (pC (.int 1))) (pC (.int 40014))) (pC (.int 7919)))) (pC (.int 2147483563)))) (pC (.int 1)))
  (sRet (eP (pOp oMod (pOp oDiv (pOp oMod (pUn oInt (pOp oMul (pOp oDiv (pOp oIx (cVar 0) (pC (.int 1))) (pC (.int 7))) (pC (.int 40692)))) (pC (.int 2147483399))) (pC (.int 16))) (pVar 1))))))
def f_law_take (cl : Nat → Addr) : FN := fnF 2 3 [2] (b_law_take cl)

theorem ok_law_take {f : Addr} {fd : FuncData} (F : Fun K "_law_take" "_law_take" s_law_take f fd) (m_int : mg "int" = none) : FnOk P w K mg base CX0 1 f fd ["_law_bag_here", "_law_many"] (spF K (f_law_take cl)) :=
  okF F sc_law_take rfl rfl (by decide) fun cdv A outer s H E hr => ⟨_, (pss_cons (ps_if (pt_cmpR op_gtA (pe_ix ix_seq (pv 0) pe_int (fun _ _ => rfl)) pe_int (nomark _))
      (pss_cons (ps_set (i := 2) sc_law_take.nd rfl (.inl rfl) (pe_op op_mod (pe_callTy call_int1 rfl m_int (by decide +kernel) (pa_cons (pe_ix ix_seq (pv 0) pe_int (fun _ _ => rfl)) pa_nil)) (pv 1)))
      (pss_cons (ps_asg (pe_op op_fdivW (pe_ix ix_seq (pv 0) pe_int (fun _ _ => rfl)) (pv 1)) (pg_sub (pv 0) pe_int set_list))
      (pss_one (ps_ret (pv 2)))))
      pss_nil)
      (pss_cons (ps_asg (pe_op op_mod (pe_callTy call_int1 rfl m_int (by decide +kernel) (pa_cons (pe_op op_addA (pe_op op_mulW (pe_ix ix_seq (pv 0) pe_int (fun _ _ => rfl)) pe_int) pe_int) pa_nil)) pe_int) (pg_sub (pv 0) pe_int set_list))
      (pss_one (ps_ret (pe_op op_mod (pe_op op_fdivW (pe_op op_mod (pe_callTy call_int1 rfl m_int (by decide +kernel) (pa_cons (pe_op op_mulW (pe_op op_fdivW (pe_ix ix_seq (pv 0) pe_int (fun _ _ => rfl)) pe_int) pe_int) pa_nil)) pe_int) pe_int) (pv 1)))))),
    (rs_seq (rs_if (eft_p (put_test (pu_op (Pu.c (pu_op (cu_var 0) (Pu.c pu_int) ix_t)) (Pu.c pu_int) gt_t)))
      (rs_seq (rs_asgD (ef_p (pu_op (Pu.c (pu_call1 (Pu.c (pu_op (cu_var 0) (Pu.c pu_int) ix_t)) int_t)) (Pu.c (pu_var 1)) mod_t)) (by decide))
      (rs_seq (rs_setI (ef_p (pu_op (Pu.c (pu_op (cu_var 0) (Pu.c pu_int) ix_t)) (Pu.c (pu_var 1)) div_t)) pu_int)
      (rs_ret (ef_p (pu_var 2)))))
      rs_next)
      (rs_seq (rs_setI (ef_p (pu_op (Pu.c (pu_call1 (Pu.c (pu_op (Pu.c (pu_op (Pu.c (pu_op (cu_var 0) (Pu.c pu_int) ix_t)) (Pu.c pu_int) mul_t)) (Pu.c pu_int) add_t)) int_t)) (Pu.c pu_int) mod_t)) pu_int)
      (rs_ret (ef_p (pu_op (Pu.c (pu_op (Pu.c (pu_op (Pu.c (pu_call1 (Pu.c (pu_op (Pu.c (pu_op (Pu.c (pu_op (cu_var 0) (Pu.c pu_int) ix_t)) (Pu.c pu_int) div_t)) (Pu.c pu_int) mul_t)) int_t)) (Pu.c pu_int) mod_t)) (Pu.c pu_int) div_t)) (Pu.c (pu_var 1)) mod_t)))))⟩

abbrev s_law_name : Stmt := topS 25
theorem sc_law_name : FnScope ["_law_bag_here", "_law_size", "_law_k"] ["_law_bag_here"] (defScope s_law_name) := ⟨rfl, rfl, rfl, by decide +kernel, rfl, by decide +kernel, by decide +kernel⟩

def b_law_name (cl : Nat → Addr) : List T → Option O :=
  (sSeq (sAsgD 1 (eOp [none, none] oAdd (aCons (eP (pC (.int 1))) (aCons (eCall (f_law_take cl) [some 0, none] (aBor 0 (aCons (eP (pC (.int 8))) aNil))) aNil))))
  (sRet (eJoin (pC (.str "")) (eLc [2] (iP (iR1 (pVar 1))) (gN 2) (eT bYes) (eOp [none, none] oIx (aCons (eP (pC (.str "abcdefghijklmnopqrstuvwxyz"))) (aCons (eCall (f_law_take cl) [some 0, none] (aBor 0 (aCons (eP (pC (.int 26))) aNil))) aNil)))))))
def f_law_name (cl : Nat → Addr) : FN := fnF 1 3 [1] (b_law_name cl)

theorem ok_law_name {f : Addr} {fd : FuncData} (F : Fun K "_law_name" "_law_name" s_law_name f fd) {f_law_take_ : Addr} {fd_law_take : FuncData} (G_law_take : FnOk P w K mg base CX0 1 f_law_take_ fd_law_take ["_law_bag_here", "_law_many"] (spF K (f_law_take cl))) (g_law_take : mg "_law_take" = some (.ref f_law_take_)) (k_law_take : PySem.W.keepIn K (.ref f_law_take_) = true) (b_law_take : Binds K fd_law_take ["_law_bag_here", "_law_many"] []) (m_range : mg "range" = none) : FnOk P w K mg base CX0 2 f fd ["_law_bag_here"] (spF K (f_law_name cl)) :=
  okF F sc_law_name rfl rfl (by decide) fun cdv A outer s H E hr => ⟨_, (pss_cons (ps_set (i := 1) sc_law_name.nd rfl (.inl rfl) (pe_op op_addA pe_int (pe_call G_law_take (hr.mono (by decide)) rfl g_law_take k_law_take b_law_take .nil pass0 (pa_cons (pv 0) (pa_cons pe_int pa_nil)))))
      (pss_one (ps_ret (pe_join pe_str (pe_lc (own := [("_law_k", 2)])  rfl sc_law_name.nd (pi_range1 rfl m_range (pa_cons (pv 1) pa_nil)) (blkOk_by (N := ["_law_bag_here", "_law_size", "_law_k"]) (sc := defScope s_law_name) (by decide +kernel)) (fun _ _ _ _ _ => (pg_name (i := 2) sc_law_name.nd rfl (.inl rfl))) (fun _ _ _ _ _ => pts_nil) (fun _ _ _ _ _ => (pe_ix (ix_seqK (K := K)) pe_str (pe_call G_law_take (hr.mono (by decide)) rfl g_law_take k_law_take b_law_take .nil pass0 (pa_cons (pv 0) (pa_cons pe_int pa_nil))) (fun _ _ => rfl)))))))),
    (rs_seq (rs_asgD (ef_op (efa_cons (ef_p pu_int) (efa_cons (ef_call (efa_bor 0 (efa_cons (ef_p pu_int) efa_nil))) efa_nil)) add_t) (by decide))
      (rs_ret (ef_join pu_str (ef_lcE (ite_p (its_rng1 (fz := true) (pu_var 1))) (rg_n (by decide)) (eft_p put_yes) (ef_op (efa_cons (ef_p pu_str) (efa_cons (ef_call (efa_bor 0 (efa_cons (ef_p pu_int) efa_nil))) efa_nil)) ix_t)))))⟩

abbrev s_law_names : Stmt := topS 26
theorem sc_law_names : FnScope ["_law_bag_here", "_law_most", "_law_rows", "_law_k"] ["_law_bag_here", "_law_most"] (defScope s_law_names) := ⟨rfl, rfl, rfl, by decide +kernel, rfl, by decide +kernel, by decide +kernel⟩

def b_law_names (cl : Nat → Addr) : List T → Option O :=
  (sSeq (sAsg 2 (eLc [3] (iR1E (eCall (f_law_take cl) [some 0, none] (aBor 0 (aCons (eP (pOp oAdd (pVar 1) (pC (.int 1)))) aNil)))) (gN 3) (eT bYes) (eCall (f_law_name cl) [some 0] (aBor 0 aNil))))
  (sSeq (sIf (eAnd (eT (pTest (pOp oGt (pUn oLen (cVar 2)) (pC (.int 1))))) (eTest (eOp [none, none] oEq (aCons (eCall (f_law_take cl) [some 0, none] (aBor 0 (aCons (eP (pC (.int 3))) aNil))) (aCons (eP (pC (.int 0))) aNil)))))
  (sSetI 2 (eP (pOp oIx (cVar 2) (pUn oNeg (pC (.int 1))))) (pC (.int 0)))
  sNext)
  (sRet (eMov 2))))
def f_law_names (cl : Nat → Addr) : FN := fnF 2 4 [2] (b_law_names cl)

theorem ok_law_names {f : Addr} {fd : FuncData} (F : Fun K "_law_names" "_law_names" s_law_names f fd) {f_law_take_ : Addr} {fd_law_take : FuncData} {f_law_name_ : Addr} {fd_law_name : FuncData} (G_law_take : FnOk P w K mg base CX0 1 f_law_take_ fd_law_take ["_law_bag_here", "_law_many"] (spF K (f_law_take cl))) (g_law_take : mg "_law_take" = some (.ref f_law_take_)) (k_law_take : PySem.W.keepIn K (.ref f_law_take_) = true) (b_law_take : Binds K fd_law_take ["_law_bag_here", "_law_many"] []) (G_law_name : FnOk P w K mg base CX0 2 f_law_name_ fd_law_name ["_law_bag_here"] (spF K (f_law_name cl))) (g_law_name : mg "_law_name" = some (.ref f_law_name_)) (k_law_name : PySem.W.keepIn K (.ref f_law_name_) = true) (b_law_name : Binds K fd_law_name ["_law_bag_here"] []) (m_len : mg "len" = none) (m_range : mg "range" = none) : FnOk P w K mg base CX0 3 f fd ["_law_bag_here", "_law_most"] (spF K (f_law_names cl)) :=
  okF F sc_law_names rfl rfl (by decide) fun cdv A outer s H E hr => ⟨_, (pss_cons (ps_setLc (i := 2) (own := [("_law_k", 3)])  rfl sc_law_names.nd rfl rfl (sw_true rfl rfl rfl (by decide +kernel)) (pi_range1 rfl m_range (pa_cons (pe_call G_law_take (hr.mono (by decide)) rfl g_law_take k_law_take b_law_take .nil pass0 (pa_cons (pv 0) (pa_cons (pe_op op_addA (pv 1) pe_int) pa_nil))) pa_nil)) (blkOk_by (N := ["_law_bag_here", "_law_most", "_law_rows", "_law_k"]) (sc := defScope s_law_names) (by decide +kernel)) (fun _ _ _ _ _ => (pg_name (i := 3) sc_law_names.nd rfl (.inl rfl))) (fun _ _ _ _ _ => pts_nil) (fun _ _ _ _ _ => (pe_call G_law_name (hr.mono (by decide)) rfl g_law_name k_law_name b_law_name .nil pass0 (pa_cons (pv 0) pa_nil))))
      (pss_cons (ps_if (PW.pt (pw_and (pt_cmpR op_gtA (pe_callB call_lenA rfl m_len (by decide +kernel) (pa_cons (pv 2) pa_nil)) pe_int (nomark _)) (pw_and1 (pt_cmpR (op_eqA (hu64 hr)) (pe_call G_law_take (hr.mono (by decide)) rfl g_law_take k_law_take b_law_take .nil pass0 (pa_cons (pv 0) (pa_cons pe_int pa_nil))) pe_int (nomark _)))))
      (pss_one (ps_asg (pe_ix ix_seq (pv 2) (pe_un un_neg pe_int) (fun _ _ => rfl)) (pg_sub (pv 2) pe_int set_list)))
      pss_nil)
      (pss_one (ps_ret (pv 2))))),
    (rs_seq (rs_asg (ef_lcE (ite_rng1 (ef_call (efa_bor 0 (efa_cons (ef_p (pu_op (Pu.c (pu_var 1)) (Pu.c pu_int) add_t)) efa_nil)))) (rg_n (by decide)) (eft_p put_yes) (ef_call (efa_bor 0 efa_nil))) (by decide))
      (rs_seq (rs_if (eft_and (eft_p (put_test (pu_op (Pu.c (pu_call1 (cu_var 2) len_t)) (Pu.c pu_int) gt_t))) (eft_test (ef_op (efa_cons (ef_call (efa_bor 0 (efa_cons (ef_p pu_int) efa_nil))) (efa_cons (ef_p pu_int) efa_nil)) eq_t)))
      (rs_setI (ef_p (pu_op (cu_var 2) (Pu.c (pu_un (Pu.c pu_int) neg_t)) ix_t)) pu_int)
      rs_next)
      (rs_ret (ef_mov 2))))⟩

abbrev s_law_number : Stmt := topS 27
theorem sc_law_number : FnScope ["_law_bag_here"] ["_law_bag_here"] (defScope s_law_number) := ⟨rfl, rfl, rfl, by decide +kernel, rfl, by decide +kernel, by decide +kernel⟩

def b_law_number (cl : Nat → Addr) : List T → Option O :=
  (sRet (eOp [none, none] oIx (aCons (eLst [none, none, none, none] (aCons (eP (pC (.int 1))) (aCons (eP (pOp oPow (pC (.int 10)) (pC (.int 30)))) (aCons (eOp [none, none] oAdd (aCons (eP (pC (.int 2))) (aCons (eCall (f_law_take cl) [some 0, none] (aBor 0 (aCons (eP (pC (.int 900))) aNil))) aNil))) (aCons (eOp [none, none] oAdd (aCons (eP (pC (.int 1))) (aCons (eCall (f_law_take cl) [some 0, none] (aBor 0 (aCons (eP (pOp oPow (pC (.int 10)) (pC (.int 30)))) aNil))) aNil))) aNil))))) (aCons (eCall (f_law_take cl) [some 0, none] (aBor 0 (aCons (eP (pC (.int 4))) aNil))) aNil))))
def f_law_number (cl : Nat → Addr) : FN := fnF 1 1 [] (b_law_number cl)

theorem ok_law_number {f : Addr} {fd : FuncData} (F : Fun K "_law_number" "_law_number" s_law_number f fd) {f_law_take_ : Addr} {fd_law_take : FuncData} (G_law_take : FnOk P w K mg base CX0 1 f_law_take_ fd_law_take ["_law_bag_here", "_law_many"] (spF K (f_law_take cl))) (g_law_take : mg "_law_take" = some (.ref f_law_take_)) (k_law_take : PySem.W.keepIn K (.ref f_law_take_) = true) (b_law_take : Binds K fd_law_take ["_law_bag_here", "_law_many"] []) : FnOk P w K mg base CX0 2 f fd ["_law_bag_here"] (spF K (f_law_number cl)) :=
  okF F sc_law_number rfl rfl (by decide) fun cdv A outer s H E hr => ⟨_, (pss_one (ps_ret (pe_ix ix_seq (pe_lst (pa_cons pe_int (pa_cons (pe_op op_pow pe_int pe_int) (pa_cons (pe_op op_addA pe_int (pe_call G_law_take (hr.mono (by decide)) rfl g_law_take k_law_take b_law_take .nil pass0 (pa_cons (pv 0) (pa_cons pe_int pa_nil)))) (pa_cons (pe_op op_addA pe_int (pe_call G_law_take (hr.mono (by decide)) rfl g_law_take k_law_take b_law_take .nil pass0 (pa_cons (pv 0) (pa_cons (pe_op op_pow pe_int pe_int) pa_nil)))) pa_nil))))) (pe_call G_law_take (hr.mono (by decide)) rfl g_law_take k_law_take b_law_take .nil pass0 (pa_cons (pv 0) (pa_cons pe_int pa_nil))) (fun _ _ => rfl)))),
    (rs_ret (ef_op (efa_cons (ef_lst (efa_cons (ef_p pu_int) (efa_cons (ef_p (pu_op (Pu.c pu_int) (Pu.c pu_int) pow_t)) (efa_cons (ef_op (efa_cons (ef_p pu_int) (efa_cons (ef_call (efa_bor 0 (efa_cons (ef_p pu_int) efa_nil))) efa_nil)) add_t) (efa_cons (ef_op (efa_cons (ef_p pu_int) (efa_cons (ef_call (efa_bor 0 (efa_cons (ef_p (pu_op (Pu.c pu_int) (Pu.c pu_int) pow_t)) efa_nil))) efa_nil)) add_t) efa_nil))))) (efa_cons (ef_call (efa_bor 0 (efa_cons (ef_p pu_int) efa_nil))) efa_nil)) ix_t))⟩

abbrev s_law_answers : Stmt := topS 28
theorem sc_law_answers : FnScope ["_law_bag_here", "_law_number_here", "_law_rows", "_law_last", "_law_k"] ["_law_bag_here", "_law_number_here"] (defScope s_law_answers) := ⟨rfl, rfl, rfl, by decide +kernel, rfl, by decide +kernel, by decide +kernel⟩

def b_law_answers (cl : Nat → Addr) : List T → Option O :=
  (sSeq (sPar [2, 3] (aCons (eLst [] aNil) (aCons (eP (pVar 1)) aNil)))
  (sSeq (sFor (iR1E (eOp [none, none] oIx (aCons (eLst [none, none, none, none, none] (aCons (eP (pC (.int 0))) (aCons (eP (pC (.int 1))) (aCons (eP (pC (.int 2))) (aCons (eP (pC (.int 8))) (aCons (eCall (f_law_take cl) [some 0, none] (aBor 0 (aCons (eP (pC (.int 9))) aNil))) aNil)))))) (aCons (eCall (f_law_take cl) [some 0, none] (aBor 0 (aCons (eP (pC (.int 5))) aNil))) aNil)))) (gN 4)
  (sSeq (sAsgD 3 (eOp [none, none] oAdd (aCons (eOp [none, none] oMod (aCons (eUn [none] oInt (aCons (eOp [none, none] oAdd (aCons (eP (pVar 3)) (aCons (eCall (f_law_take cl) [some 0, none] (aBor 0 (aCons (eP (pC (.int 1000))) aNil))) aNil))) aNil)) (aCons (eP (pOp oPow (pC (.int 10)) (pC (.int 30)))) aNil))) (aCons (eP (pC (.int 1))) aNil))))
  (sIf (eT (bAnd (pTest (pOp oNotIn (pVar 3) (cVar 2))) (pTest (pOp oNe (pVar 3) (pVar 1)))))
  (sAppV 2 (eP (pVar 3)))
  sNext)))
  (sRet (eMov 2))))
def f_law_answers (cl : Nat → Addr) : FN := fnF 2 5 [2, 3, 4] (b_law_answers cl)

theorem ok_law_answers {f : Addr} {fd : FuncData} (F : Fun K "_law_answers" "_law_answers" s_law_answers f fd) {f_law_take_ : Addr} {fd_law_take : FuncData} (G_law_take : FnOk P w K mg base CX0 1 f_law_take_ fd_law_take ["_law_bag_here", "_law_many"] (spF K (f_law_take cl))) (g_law_take : mg "_law_take" = some (.ref f_law_take_)) (k_law_take : PySem.W.keepIn K (.ref f_law_take_) = true) (b_law_take : Binds K fd_law_take ["_law_bag_here", "_law_many"] []) (m_int : mg "int" = none) (m_range : mg "range" = none) : FnOk P w K mg base CX0 2 f fd ["_law_bag_here", "_law_number_here"] (spF K (f_law_answers cl)) :=
  okF F sc_law_answers rfl rfl (by decide) fun cdv A outer s H E hr => ⟨_, (pss_cons (ps_par (i := 2) (j := 3) rfl sc_law_answers.nd rfl rfl (by decide) rfl rfl (pa_cons (pe_lst pa_nil) (pa_cons (pv 1) pa_nil)) rfl)
      (pss_cons (ps_for PassesOwn.never rfl (pi_range1 rfl m_range (pa_cons (pe_ix ix_seq (pe_lst (pa_cons pe_int (pa_cons pe_int (pa_cons pe_int (pa_cons pe_int (pa_cons (pe_call G_law_take (hr.mono (by decide)) rfl g_law_take k_law_take b_law_take .nil pass0 (pa_cons (pv 0) (pa_cons pe_int pa_nil))) pa_nil)))))) (pe_call G_law_take (hr.mono (by decide)) rfl g_law_take k_law_take b_law_take .nil pass0 (pa_cons (pv 0) (pa_cons pe_int pa_nil))) (fun _ _ => rfl)) pa_nil)) (pg_name (i := 4) sc_law_answers.nd rfl (.inl rfl))
      (pss_cons (ps_set (i := 3) sc_law_answers.nd rfl (.inl rfl) (pe_op op_addA (pe_op op_mod (pe_callTy call_int1 rfl m_int (by decide +kernel) (pa_cons (pe_op op_addA (pv 3) (pe_call G_law_take (hr.mono (by decide)) rfl g_law_take k_law_take b_law_take .nil pass0 (pa_cons (pv 0) (pa_cons pe_int pa_nil)))) pa_nil)) (pe_op op_pow pe_int pe_int)) pe_int))
      (pss_one (ps_if (PW.pt (pw_and (pt_cmpR (op_notInA (hu65 hr)) (pv 3) (pv 2) rfl) (pw_and1 (pt_cmpR (op_neA (hu64 hr)) (pv 3) (pv 1) (nomark _)))))
      (pss_one (ps_expr (pe_bm PySem.F.plainAttrs_list PySem.F.slot_list_append PySem.F.type_list_append mt_append (pv 2) (pa_cons (pv 3) pa_nil))))
      pss_nil))))
      (pss_one (ps_ret (pv 2))))),
    (rs_seq (rs_par (efa_cons (ef_lst efa_nil) (efa_cons (ef_p (pu_var 1)) efa_nil)) rfl (by decide) (by decide) (by decide))
      (rs_seq (rs_for (ite_rng1 (ef_op (efa_cons (ef_lst (efa_cons (ef_p pu_int) (efa_cons (ef_p pu_int) (efa_cons (ef_p pu_int) (efa_cons (ef_p pu_int) (efa_cons (ef_call (efa_bor 0 (efa_cons (ef_p pu_int) efa_nil))) efa_nil)))))) (efa_cons (ef_call (efa_bor 0 (efa_cons (ef_p pu_int) efa_nil))) efa_nil)) ix_t)) (rg_n (by decide))
      (rs_seq (rs_asgD (ef_op (efa_cons (ef_op (efa_cons (ef_call1 (efa_cons (ef_op (efa_cons (ef_p (pu_var 3)) (efa_cons (ef_call (efa_bor 0 (efa_cons (ef_p pu_int) efa_nil))) efa_nil)) add_t) efa_nil) int_t) (efa_cons (ef_p (pu_op (Pu.c pu_int) (Pu.c pu_int) pow_t)) efa_nil)) mod_t) (efa_cons (ef_p pu_int) efa_nil)) add_t) (by decide))
      (rs_if (eft_p (put_and (put_test (pu_op (Pu.c (pu_var 3)) (cu_var 2) notIn_t)) (put_test (pu_op (Pu.c (pu_var 3)) (Pu.c (pu_var 1)) ne_t))))
      (rs_appV (ef_p (pu_var 3)))
      rs_next)))
      (rs_ret (ef_mov 2))))⟩

abbrev s_law_fields : Stmt := topS 29
theorem sc_law_fields : FnScope ["_law_bag_here", "_law_number_here", "_law_size", "_law_words", "_law_k"] ["_law_bag_here"] (defScope s_law_fields) := ⟨rfl, rfl, rfl, by decide +kernel, rfl, by decide +kernel, by decide +kernel⟩

def b_law_fields (cl : Nat → Addr) : List T → Option O :=
  (sSeq (sAsgD 1 (eCall (f_law_number cl) [some 0] (aBor 0 aNil)))
  (sSeq (sAsgD 2 (eOp [none, none] oIx (aCons (eLst [none, none, none, none, none] (aCons (eP (pC (.int 0))) (aCons (eP (pC (.int 1))) (aCons (eP (pC (.int 8))) (aCons (eP (pC (.int 40))) (aCons (eCall (f_law_take cl) [some 0, none] (aBor 0 (aCons (eP (pC (.int 12))) aNil))) aNil)))))) (aCons (eCall (f_law_take cl) [some 0, none] (aBor 0 (aCons (eP (pC (.int 5))) aNil))) aNil))))
  (sSeq (sAsgD 3 (eLc [4] (iP (iR1 (pVar 2))) (gN 4) (eT bYes) (eCall (f_law_name cl) [some 0] (aBor 0 aNil))))
  (sRet (eLst [none, none, none, none, none, none] (aCons (eP (pVar 1)) (aCons (eCall (f_law_name cl) [some 0] (aBor 0 aNil)) (aCons (eCall (f_law_name cl) [some 0] (aBor 0 aNil)) (aCons (eCall (f_law_answers cl) [some 0, none] (aBor 0 (aCons (eP (pVar 1)) aNil))) (aCons (eCall (f_law_names cl) [some 0, none] (aBor 0 (aCons (eP (pC (.int 8))) aNil))) (aCons (eP (pVar 3)) aNil)))))))))))
def f_law_fields (cl : Nat → Addr) : FN := fnF 1 5 [1, 2, 3] (b_law_fields cl)

theorem ok_law_fields {f : Addr} {fd : FuncData} (F : Fun K "_law_fields" "_law_fields" s_law_fields f fd) {f_law_number_ : Addr} {fd_law_number : FuncData} {f_law_take_ : Addr} {fd_law_take : FuncData} {f_law_name_ : Addr} {fd_law_name : FuncData} {f_law_names_ : Addr} {fd_law_names : FuncData} {f_law_answers_ : Addr} {fd_law_answers : FuncData} (G_law_number : FnOk P w K mg base CX0 2 f_law_number_ fd_law_number ["_law_bag_here"] (spF K (f_law_number cl))) (g_law_number : mg "_law_number" = some (.ref f_law_number_)) (k_law_number : PySem.W.keepIn K (.ref f_law_number_) = true) (b_law_number : Binds K fd_law_number ["_law_bag_here"] []) (G_law_take : FnOk P w K mg base CX0 1 f_law_take_ fd_law_take ["_law_bag_here", "_law_many"] (spF K (f_law_take cl))) (g_law_take : mg "_law_take" = some (.ref f_law_take_)) (k_law_take : PySem.W.keepIn K (.ref f_law_take_) = true) (b_law_take : Binds K fd_law_take ["_law_bag_here", "_law_many"] []) (G_law_name : FnOk P w K mg base CX0 2 f_law_name_ fd_law_name ["_law_bag_here"] (spF K (f_law_name cl))) (g_law_name : mg "_law_name" = some (.ref f_law_name_)) (k_law_name : PySem.W.keepIn K (.ref f_law_name_) = true) (b_law_name : Binds K fd_law_name ["_law_bag_here"] []) (G_law_names : FnOk P w K mg base CX0 3 f_law_names_ fd_law_names ["_law_bag_here", "_law_most"] (spF K (f_law_names cl))) (g_law_names : mg "_law_names" = some (.ref f_law_names_)) (k_law_names : PySem.W.keepIn K (.ref f_law_names_) = true) (b_law_names : Binds K fd_law_names ["_law_bag_here", "_law_most"] []) (G_law_answers : FnOk P w K mg base CX0 2 f_law_answers_ fd_law_answers ["_law_bag_here", "_law_number_here"] (spF K (f_law_answers cl))) (g_law_answers : mg "_law_answers" = some (.ref f_law_answers_)) (k_law_answers : PySem.W.keepIn K (.ref f_law_answers_) = true) (b_law_answers : Binds K fd_law_answers ["_law_bag_here", "_law_number_here"] []) (m_range : mg "range" = none) : FnOk P w K mg base CX0 4 f fd ["_law_bag_here"] (spF K (f_law_fields cl)) :=
  okF F sc_law_fields rfl rfl (by decide) fun cdv A outer s H E hr => ⟨_, (pss_cons (ps_set (i := 1) sc_law_fields.nd rfl (.inl rfl) (pe_call G_law_number (hr.mono (by decide)) rfl g_law_number k_law_number b_law_number .nil pass0 (pa_cons (pv 0) pa_nil)))
      (pss_cons (ps_set (i := 2) sc_law_fields.nd rfl (.inl rfl) (pe_ix ix_seq (pe_lst (pa_cons pe_int (pa_cons pe_int (pa_cons pe_int (pa_cons pe_int (pa_cons (pe_call G_law_take (hr.mono (by decide)) rfl g_law_take k_law_take b_law_take .nil pass0 (pa_cons (pv 0) (pa_cons pe_int pa_nil))) pa_nil)))))) (pe_call G_law_take (hr.mono (by decide)) rfl g_law_take k_law_take b_law_take .nil pass0 (pa_cons (pv 0) (pa_cons pe_int pa_nil))) (fun _ _ => rfl)))
      (pss_cons (ps_setLc (i := 3) (own := [("_law_k", 4)])  rfl sc_law_fields.nd rfl rfl (sw_true rfl rfl rfl (by decide +kernel)) (pi_range1 rfl m_range (pa_cons (pv 2) pa_nil)) (blkOk_by (N := ["_law_bag_here", "_law_number_here", "_law_size", "_law_words", "_law_k"]) (sc := defScope s_law_fields) (by decide +kernel)) (fun _ _ _ _ _ => (pg_name (i := 4) sc_law_fields.nd rfl (.inl rfl))) (fun _ _ _ _ _ => pts_nil) (fun _ _ _ _ _ => (pe_call G_law_name (hr.mono (by decide)) rfl g_law_name k_law_name b_law_name .nil pass0 (pa_cons (pv 0) pa_nil))))
      (pss_one (ps_ret (pe_lst (pa_cons (pv 1) (pa_cons (pe_call G_law_name (hr.mono (by decide)) rfl g_law_name k_law_name b_law_name .nil pass0 (pa_cons (pv 0) pa_nil)) (pa_cons (pe_call G_law_name (hr.mono (by decide)) rfl g_law_name k_law_name b_law_name .nil pass0 (pa_cons (pv 0) pa_nil)) (pa_cons (pe_call G_law_answers (hr.mono (by decide)) rfl g_law_answers k_law_answers b_law_answers .nil pass0 (pa_cons (pv 0) (pa_cons (pv 1) pa_nil))) (pa_cons (pe_call G_law_names (hr.mono (by decide)) rfl g_law_names k_law_names b_law_names .nil pass0 (pa_cons (pv 0) (pa_cons pe_int pa_nil))) (pa_cons (pv 3) pa_nil)))))))))))),
    (rs_seq (rs_asgD (ef_call (efa_bor 0 efa_nil)) (by decide))
      (rs_seq (rs_asgD (ef_op (efa_cons (ef_lst (efa_cons (ef_p pu_int) (efa_cons (ef_p pu_int) (efa_cons (ef_p pu_int) (efa_cons (ef_p pu_int) (efa_cons (ef_call (efa_bor 0 (efa_cons (ef_p pu_int) efa_nil))) efa_nil)))))) (efa_cons (ef_call (efa_bor 0 (efa_cons (ef_p pu_int) efa_nil))) efa_nil)) ix_t) (by decide))
      (rs_seq (rs_asgD (ef_lcE (ite_p (its_rng1 (fz := true) (pu_var 2))) (rg_n (by decide)) (eft_p put_yes) (ef_call (efa_bor 0 efa_nil))) (by decide))
      (rs_ret (ef_lst (efa_cons (ef_p (pu_var 1)) (efa_cons (ef_call (efa_bor 0 efa_nil)) (efa_cons (ef_call (efa_bor 0 efa_nil)) (efa_cons (ef_call (efa_bor 0 (efa_cons (ef_p (pu_var 1)) efa_nil))) (efa_cons (ef_call (efa_bor 0 (efa_cons (ef_p pu_int) efa_nil))) (efa_cons (ef_p (pu_var 3)) efa_nil)))))))))))⟩

abbrev s_is_name : Stmt := topS 6
theorem sc_is_name : FnScope ["value", "sign"] ["value"] (defScope s_is_name) := ⟨rfl, rfl, rfl, by decide +kernel, rfl, by decide +kernel, by decide +kernel⟩

def b_is_name (cl : Nat → Addr) : List T → Option O :=
  (sSeq (sIf (eT (bOr (bNot (pTest (pOp oIsi2 (pVar 0) (pC (.raw (.ty "str")))))) (bNot (pTest (pChain oLe oLe (pC (.int 1)) (pUn oLen (pVar 0)) (pC (.int 8)))))))
  (sRet (eP (pC (.bl false))))
  sNext)
  (sRet (eP (pUn oAll (pLc [1] (iAnyF (pVar 0)) (gN 1) bYes (pChain oLe oLe (pC (.str "a")) (pVar 1) (pC (.str "z"))))))))
def f_is_name (cl : Nat → Addr) : FN := fnF 1 2 [] (b_is_name cl)

theorem ok_is_name {f : Addr} {fd : FuncData} (F : Fun K "is_name" "is_name" s_is_name f fd) {t_LONGEST_NAME : Tok} (m_all : mg "all" = none) (m_isinstance : mg "isinstance" = none) (m_len : mg "len" = none) (m_str : mg "str" = none) (g_LONGEST_NAME : mg "LONGEST_NAME" = some (.int 8 t_LONGEST_NAME)) : FnOk P w K mg base CX0 1 f fd ["value"] (spF K (f_is_name cl)) :=
  okF F sc_is_name rfl rfl (by decide) fun cdv A outer s H E hr => ⟨_, (pss_cons (ps_if (PW.pt (pw_or (pt_not (pt_val (pe_callB call_isi rfl m_isinstance (by decide +kernel) (pa_cons (pv 0) (pa_cons (pe_bltn (v := .ty "str") rfl m_str (by decide +kernel) rfl) pa_nil))))) (pw_or1 (pt_not (pt_chain op_leA op_leA pe_int (pe_callB call_lenA rfl m_len (by decide +kernel) (pa_cons (pv 0) pa_nil)) (pe_glob (v := .int 8) rfl g_LONGEST_NAME ⟨_, rfl⟩))))))
      (pss_one (ps_ret pe_bl))
      pss_nil)
      (pss_one (ps_ret (pe_callB (cr_all rfl) rfl m_all (by decide +kernel) (pa_cons (pe_lc (own := [("sign", 1)])  rfl sc_is_name.nd (pi_any (pv 0)) (blkOk_by (N := ["value", "sign"]) (sc := defScope s_is_name) (by decide +kernel)) (fun _ _ _ _ _ => (pg_name (i := 1) sc_is_name.nd rfl (.inl rfl))) (fun _ _ _ _ _ => pts_nil) (fun _ _ _ _ _ => (pe_chain op_leA op_leA pe_str (pv 1) pe_str))) pa_nil))))),
    (rs_seq (rs_if (eft_p (put_or (put_not (put_b (pu_call2 (Pu.c (pu_var 0)) (Pu.c pu_raw) isi2_t))) (put_not (put_test (pu_chain (Pu.c pu_int) (Pu.c (pu_call1 (Pu.c (pu_var 0)) len_t)) (Pu.c pu_int) le_t le_t)))))
      (rs_ret (ef_p pu_bl))
      rs_next)
      (rs_ret (ef_p (pu_call1 (Pu.c (pu_lc (its_any (fz := true) (pu_var 0)) (rg_n (by decide)) put_yes (pu_chain (Pu.c pu_str) (Pu.c (pu_var 1)) (Pu.c pu_str) le_t le_t))) all_t))))⟩

abbrev s_is_number : Stmt := topS 7
theorem sc_is_number : FnScope ["value"] ["value"] (defScope s_is_number) := ⟨rfl, rfl, rfl, by decide +kernel, rfl, by decide +kernel, by decide +kernel⟩

def b_is_number (cl : Nat → Addr) : List T → Option O :=
  (sRet (eP (pAnd (pOp oIsi2 (pVar 0) (pC (.raw (.ty "int")))) (pAnd (pNot (pOp oIsi2 (pVar 0) (pC (.raw (.ty "bool"))))) (pChain oLe oLe (pC (.int 1)) (pVar 0) (pC (.int 1000000000000000000000000000000)))))))
def f_is_number (cl : Nat → Addr) : FN := fnF 1 1 [] (b_is_number cl)

theorem ok_is_number {f : Addr} {fd : FuncData} (F : Fun K "is_number" "is_number" s_is_number f fd) {t_GREATEST_NUMBER : Tok} (m_bool : mg "bool" = none) (m_int : mg "int" = none) (m_isinstance : mg "isinstance" = none) (g_GREATEST_NUMBER : mg "GREATEST_NUMBER" = some (.int 1000000000000000000000000000000 t_GREATEST_NUMBER)) : FnOk P w K mg base CX0 1 f fd ["value"] (spF K (f_is_number cl)) :=
  okF F sc_is_number rfl rfl (by decide) fun cdv A outer s H E hr => ⟨_, (pss_one (ps_ret (pe_and (pe_callB call_isi rfl m_isinstance (by decide +kernel) (pa_cons (pv 0) (pa_cons (pe_bltn (v := .ty "int") rfl m_int (by decide +kernel) rfl) pa_nil))) (pe_and (pe_not (pe_callB call_isi rfl m_isinstance (by decide +kernel) (pa_cons (pv 0) (pa_cons (pe_bltn (v := .ty "bool") rfl m_bool (by decide +kernel) rfl) pa_nil)))) (pe_one (pe_chain op_leA op_leA pe_int (pv 0) (pe_glob (v := .int 1000000000000000000000000000000) rfl g_GREATEST_NUMBER ⟨_, rfl⟩))))))),
    (rs_ret (ef_p (pu_and (pu_call2 (Pu.c (pu_var 0)) (Pu.c pu_raw) isi2_t) (pu_and (pu_not (pu_call2 (Pu.c (pu_var 0)) (Pu.c pu_raw) isi2_t)) (pu_chain (Pu.c pu_int) (Pu.c (pu_var 0)) (Pu.c pu_int) le_t le_t)))))⟩

abbrev s_are_names : Stmt := topS 19
theorem sc_are_names : FnScope ["value", "most", "item"] ["value", "most"] (defScope s_are_names) := ⟨rfl, rfl, rfl, by decide +kernel, rfl, by decide +kernel, by decide +kernel⟩

def b_are_names (cl : Nat → Addr) : List T → Option O :=
  (sSeq (sIf (eT (bOr (bNot (pTest (pUn (oIsiT ["list", "tuple"]) (cVar 0)))) (pTest (pOp oGt (pUn oLen (cVar 0)) (pVar 1)))))
  (sRet (eP (pC (.bl false))))
  sNext)
  (sRet (eP (pUn oAll (pLc [2] (iAnyF (cVar 0)) (gN 2) bYes (pCall (f_is_name cl) (pCons (pVar 2) pNil)))))))
def f_are_names (cl : Nat → Addr) : FN := fnF 2 3 [] (b_are_names cl)

theorem ok_are_names {f : Addr} {fd : FuncData} (F : Fun K "are_names" "are_names" s_are_names f fd) {f_is_name_ : Addr} {fd_is_name : FuncData} (G_is_name : FnOk P w K mg base CX0 1 f_is_name_ fd_is_name ["value"] (spF K (f_is_name cl))) (g_is_name : mg "is_name" = some (.ref f_is_name_)) (k_is_name : PySem.W.keepIn K (.ref f_is_name_) = true) (b_is_name : Binds K fd_is_name ["value"] []) (m_all : mg "all" = none) (m_isinstance : mg "isinstance" = none) (m_len : mg "len" = none) (m_list : mg "list" = none) (m_tuple : mg "tuple" = none) : FnOk P w K mg base CX0 2 f fd ["value", "most"] (spF K (f_are_names cl)) :=
  okF F sc_are_names rfl rfl (by decide) fun cdv A outer s H E hr => ⟨_, (pss_cons (ps_if (PW.pt (pw_or (pt_not (pt_val (pe_callB call_isiT rfl m_isinstance (by decide +kernel) (pa_cons (pv 0) (pa_cons (pe_tup (pa_cons (pe_bltn (v := .ty "list") rfl m_list (by decide +kernel) rfl) (pa_cons (pe_bltn (v := .ty "tuple") rfl m_tuple (by decide +kernel) rfl) pa_nil))) pa_nil))))) (pw_or1 (pt_cmpR op_gtA (pe_callB call_lenA rfl m_len (by decide +kernel) (pa_cons (pv 0) pa_nil)) (pv 1) (nomark _)))))
      (pss_one (ps_ret pe_bl))
      pss_nil)
      (pss_one (ps_ret (pe_callB (cr_all rfl) rfl m_all (by decide +kernel) (pa_cons (pe_lc (own := [("item", 2)])  rfl sc_are_names.nd (pi_any (pv 0)) (blkOk_by (N := ["value", "most", "item"]) (sc := defScope s_are_names) (by decide +kernel)) (fun _ _ _ _ _ => (pg_name (i := 2) sc_are_names.nd rfl (.inl rfl))) (fun _ _ _ _ _ => pts_nil) (fun _ _ _ _ _ => (pe_call G_is_name (hr.mono (by decide)) rfl g_is_name k_is_name b_is_name .nil pass0 (pa_cons (pv 2) pa_nil)))) pa_nil))))),
    (rs_seq (rs_if (eft_p (put_or (put_not (put_b (pu_isiT (cu_var 0)))) (put_test (pu_op (Pu.c (pu_call1 (cu_var 0) len_t)) (Pu.c (pu_var 1)) gt_t))))
      (rs_ret (ef_p pu_bl))
      rs_next)
      (rs_ret (ef_p (pu_call1 (Pu.c (pu_lc (its_any (fz := false) (cu_var 0)) (rg_n (by decide)) put_yes (pu_call (pa_cons_ (pu_var 2) pa_nil_)))) all_t))))⟩

abbrev s_are_answers : Stmt := topS 18
theorem sc_are_answers : FnScope ["value", "number", "item"] ["value", "number"] (defScope s_are_answers) := ⟨rfl, rfl, rfl, by decide +kernel, rfl, by decide +kernel, by decide +kernel⟩

def b_are_answers (cl : Nat → Addr) : List T → Option O :=
  (sSeq (sIf (eT (bOr (bNot (pTest (pUn (oIsiT ["list", "tuple"]) (cVar 0)))) (pTest (pOp oGt (pUn oLen (cVar 0)) (pC (.int 8))))))
  (sRet (eP (pC (.bl false))))
  sNext)
  (sSeq (sIf (eT (bNot (pTest (pUn oAll (pLc [2] (iAnyF (cVar 0)) (gN 2) bYes (pCall (f_is_number cl) (pCons (pVar 2) pNil)))))))
  (sRet (eP (pC (.bl false))))
  sNext)
  (sRet (eP (pAnd (pOp oNotIn (pVar 1) (cVar 0)) (pOp oEq (pUn oLenSet (cVar 0)) (pUn oLen (cVar 0))))))))
def f_are_answers (cl : Nat → Addr) : FN := fnF 2 3 [] (b_are_answers cl)

theorem ok_are_answers {f : Addr} {fd : FuncData} (F : Fun K "are_answers" "are_answers" s_are_answers f fd) {f_is_number_ : Addr} {fd_is_number : FuncData} {t_MOST_ANSWERS : Tok} (G_is_number : FnOk P w K mg base CX0 1 f_is_number_ fd_is_number ["value"] (spF K (f_is_number cl))) (g_is_number : mg "is_number" = some (.ref f_is_number_)) (k_is_number : PySem.W.keepIn K (.ref f_is_number_) = true) (b_is_number : Binds K fd_is_number ["value"] []) (m_all : mg "all" = none) (m_isinstance : mg "isinstance" = none) (m_len : mg "len" = none) (m_list : mg "list" = none) (m_set : mg "set" = none) (m_tuple : mg "tuple" = none) (g_MOST_ANSWERS : mg "MOST_ANSWERS" = some (.int 8 t_MOST_ANSWERS)) : FnOk P w K mg base CX0 2 f fd ["value", "number"] (spF K (f_are_answers cl)) :=
  okF F sc_are_answers rfl rfl (by decide) fun cdv A outer s H E hr => ⟨_, (pss_cons (ps_if (PW.pt (pw_or (pt_not (pt_val (pe_callB call_isiT rfl m_isinstance (by decide +kernel) (pa_cons (pv 0) (pa_cons (pe_tup (pa_cons (pe_bltn (v := .ty "list") rfl m_list (by decide +kernel) rfl) (pa_cons (pe_bltn (v := .ty "tuple") rfl m_tuple (by decide +kernel) rfl) pa_nil))) pa_nil))))) (pw_or1 (pt_cmpR op_gtA (pe_callB call_lenA rfl m_len (by decide +kernel) (pa_cons (pv 0) pa_nil)) (pe_glob (v := .int 8) rfl g_MOST_ANSWERS ⟨_, rfl⟩) (nomark _)))))
      (pss_one (ps_ret pe_bl))
      pss_nil)
      (pss_cons (ps_if (pt_not (pt_val (pe_callB (cr_all rfl) rfl m_all (by decide +kernel) (pa_cons (pe_lc (own := [("item", 2)])  rfl sc_are_answers.nd (pi_any (pv 0)) (blkOk_by (N := ["value", "number", "item"]) (sc := defScope s_are_answers) (by decide +kernel)) (fun _ _ _ _ _ => (pg_name (i := 2) sc_are_answers.nd rfl (.inl rfl))) (fun _ _ _ _ _ => pts_nil) (fun _ _ _ _ _ => (pe_call G_is_number (hr.mono (by decide)) rfl g_is_number k_is_number b_is_number .nil pass0 (pa_cons (pv 2) pa_nil)))) pa_nil))))
      (pss_one (ps_ret pe_bl))
      pss_nil)
      (pss_one (ps_ret (pe_and (pe_cmpR (op_notInA (hu65 hr)) (pv 1) (pv 0) rfl) (pe_one (pe_cmpR (op_eqA (hu64 hr)) (pe_lenSetX hr.hd rfl m_len rfl m_set (pv 0)) (pe_callB call_lenA rfl m_len (by decide +kernel) (pa_cons (pv 0) pa_nil)) (nomark _)))))))),
    (rs_seq (rs_if (eft_p (put_or (put_not (put_b (pu_isiT (cu_var 0)))) (put_test (pu_op (Pu.c (pu_call1 (cu_var 0) len_t)) (Pu.c pu_int) gt_t))))
      (rs_ret (ef_p pu_bl))
      rs_next)
      (rs_seq (rs_if (eft_p (put_not (put_b (pu_call1 (Pu.c (pu_lc (its_any (fz := false) (cu_var 0)) (rg_n (by decide)) put_yes (pu_call (pa_cons_ (pu_var 2) pa_nil_)))) all_t))))
      (rs_ret (ef_p pu_bl))
      rs_next)
      (rs_ret (ef_p (pu_and (pu_op (Pu.c (pu_var 1)) (cu_var 0) notIn_t) (pu_op (Pu.c (pu_lenSet (cu_var 0))) (Pu.c (pu_call1 (cu_var 0) len_t)) eq_t))))))⟩

abbrev s_wrong_field : Stmt := topS 17
theorem sc_wrong_field : FnScope ["number", "person", "house", "answers", "subject", "words"] ["number", "person", "house", "answers", "subject", "words"] (defScope s_wrong_field) := ⟨rfl, rfl, rfl, by decide +kernel, rfl, by decide +kernel, by decide +kernel⟩

def b_wrong_field (cl : Nat → Addr) : List T → Option O :=
  (sSeq (sIf (eT (bNot (pTest (pCall (f_is_number cl) (pCons (pVar 0) pNil)))))
  (sRet (eP (pC (.str "number"))))
  sNext)
  (sSeq (sIf (eT (bNot (pTest (pCall (f_is_name cl) (pCons (pVar 1) pNil)))))
  (sRet (eP (pC (.str "person"))))
  sNext)
  (sSeq (sIf (eT (bNot (pTest (pCall (f_is_name cl) (pCons (pVar 2) pNil)))))
  (sRet (eP (pC (.str "house"))))
  sNext)
  (sSeq (sIf (eNot (eTest (eCall (f_are_answers cl) [some 3, none] (aBor 3 (aCons (eP (pVar 0)) aNil)))))
  (sRet (eP (pC (.str "answers"))))
  sNext)
  (sSeq (sIf (eT (bNot (pTest (pCall (f_are_names cl) (pCons (pVar 4) (pCons (pC (.int 8)) pNil))))))
  (sRet (eP (pC (.str "subject"))))
  sNext)
  (sSeq (sIf (eNot (eTest (eCall (f_are_names cl) [some 5, none] (aBor 5 (aCons (eP (pC (.int 40))) aNil)))))
  (sRet (eP (pC (.str "words"))))
  sNext)
  (sRet (eP (pC .non)))))))))
def f_wrong_field (cl : Nat → Addr) : FN := fnF 6 6 [] (b_wrong_field cl)

theorem ok_wrong_field {f : Addr} {fd : FuncData} (F : Fun K "wrong_field" "wrong_field" s_wrong_field f fd) {f_is_number_ : Addr} {fd_is_number : FuncData} {f_is_name_ : Addr} {fd_is_name : FuncData} {f_are_answers_ : Addr} {fd_are_answers : FuncData} {f_are_names_ : Addr} {fd_are_names : FuncData} {t_MOST_SUBJECT : Tok} {t_MOST_WORDS : Tok} (G_is_number : FnOk P w K mg base CX0 1 f_is_number_ fd_is_number ["value"] (spF K (f_is_number cl))) (g_is_number : mg "is_number" = some (.ref f_is_number_)) (k_is_number : PySem.W.keepIn K (.ref f_is_number_) = true) (b_is_number : Binds K fd_is_number ["value"] []) (G_is_name : FnOk P w K mg base CX0 1 f_is_name_ fd_is_name ["value"] (spF K (f_is_name cl))) (g_is_name : mg "is_name" = some (.ref f_is_name_)) (k_is_name : PySem.W.keepIn K (.ref f_is_name_) = true) (b_is_name : Binds K fd_is_name ["value"] []) (G_are_answers : FnOk P w K mg base CX0 2 f_are_answers_ fd_are_answers ["value", "number"] (spF K (f_are_answers cl))) (g_are_answers : mg "are_answers" = some (.ref f_are_answers_)) (k_are_answers : PySem.W.keepIn K (.ref f_are_answers_) = true) (b_are_answers : Binds K fd_are_answers ["value", "number"] []) (G_are_names : FnOk P w K mg base CX0 2 f_are_names_ fd_are_names ["value", "most"] (spF K (f_are_names cl))) (g_are_names : mg "are_names" = some (.ref f_are_names_)) (k_are_names : PySem.W.keepIn K (.ref f_are_names_) = true) (b_are_names : Binds K fd_are_names ["value", "most"] []) (g_MOST_SUBJECT : mg "MOST_SUBJECT" = some (.int 8 t_MOST_SUBJECT)) (g_MOST_WORDS : mg "MOST_WORDS" = some (.int 40 t_MOST_WORDS)) : FnOk P w K mg base CX0 3 f fd ["number", "person", "house", "answers", "subject", "words"] (spF K (f_wrong_field cl)) :=
  okF F sc_wrong_field rfl rfl (by decide) fun cdv A outer s H E hr => ⟨_, (pss_cons (ps_if (pt_not (pt_val (pe_call G_is_number (hr.mono (by decide)) rfl g_is_number k_is_number b_is_number .nil pass0 (pa_cons (pv 0) pa_nil))))
      (pss_one (ps_ret pe_str))
      pss_nil)
      (pss_cons (ps_if (pt_not (pt_val (pe_call G_is_name (hr.mono (by decide)) rfl g_is_name k_is_name b_is_name .nil pass0 (pa_cons (pv 1) pa_nil))))
      (pss_one (ps_ret pe_str))
      pss_nil)
      (pss_cons (ps_if (pt_not (pt_val (pe_call G_is_name (hr.mono (by decide)) rfl g_is_name k_is_name b_is_name .nil pass0 (pa_cons (pv 2) pa_nil))))
      (pss_one (ps_ret pe_str))
      pss_nil)
      (pss_cons (ps_if (pt_not (pt_val (pe_call G_are_answers (hr.mono (by decide)) rfl g_are_answers k_are_answers b_are_answers .nil pass0 (pa_cons (pv 3) (pa_cons (pv 0) pa_nil)))))
      (pss_one (ps_ret pe_str))
      pss_nil)
      (pss_cons (ps_if (pt_not (pt_val (pe_call G_are_names (hr.mono (by decide)) rfl g_are_names k_are_names b_are_names .nil pass0 (pa_cons (pv 4) (pa_cons (pe_glob (v := .int 8) rfl g_MOST_SUBJECT ⟨_, rfl⟩) pa_nil)))))
      (pss_one (ps_ret pe_str))
      pss_nil)
      (pss_cons (ps_if (pt_not (pt_val (pe_call G_are_names (hr.mono (by decide)) rfl g_are_names k_are_names b_are_names .nil pass0 (pa_cons (pv 5) (pa_cons (pe_glob (v := .int 40) rfl g_MOST_WORDS ⟨_, rfl⟩) pa_nil)))))
      (pss_one (ps_ret pe_str))
      pss_nil)
      (pss_one (ps_ret pe_non)))))))),
    (rs_seq (rs_if (eft_p (put_not (put_b (pu_call (pa_cons_ (pu_var 0) pa_nil_)))))
      (rs_ret (ef_p pu_str))
      rs_next)
      (rs_seq (rs_if (eft_p (put_not (put_b (pu_call (pa_cons_ (pu_var 1) pa_nil_)))))
      (rs_ret (ef_p pu_str))
      rs_next)
      (rs_seq (rs_if (eft_p (put_not (put_b (pu_call (pa_cons_ (pu_var 2) pa_nil_)))))
      (rs_ret (ef_p pu_str))
      rs_next)
      (rs_seq (rs_if (eft_not (eft_b (ef_call (efa_bor 3 (efa_cons (ef_p (pu_var 0)) efa_nil)))))
      (rs_ret (ef_p pu_str))
      rs_next)
      (rs_seq (rs_if (eft_p (put_not (put_b (pu_call (pa_cons_ (pu_var 4) (pa_cons_ pu_int pa_nil_))))))
      (rs_ret (ef_p pu_str))
      rs_next)
      (rs_seq (rs_if (eft_not (eft_b (ef_call (efa_bor 5 (efa_cons (ef_p pu_int) efa_nil)))))
      (rs_ret (ef_p pu_str))
      rs_next)
      (rs_ret (ef_p pu_non))))))))⟩

abbrev s_Letter_init : Stmt := methS 16 0
theorem sc_Letter_init : FnScope ["self", "number", "person", "house", "answers", "subject", "words", "field"] ["self", "number", "person", "house", "answers", "subject", "words"] (defScope s_Letter_init) := ⟨rfl, rfl, rfl, by decide +kernel, rfl, by decide +kernel, by decide +kernel⟩

def b_Letter_init (cl : Nat → Addr) : List T → Option O :=
  (sSeq (sAsgD 7 (eCall (f_wrong_field cl) [none, none, none, some 4, none, some 6] (aCons (eP (pVar 1)) (aCons (eP (pVar 2)) (aCons (eP (pVar 3)) (aBor 4 (aCons (eP (pVar 5)) (aBor 6 aNil))))))))
  (sSeq (sIf (eT (pTest (pOp oNotN (pVar 7) (pC .non))))
  (sRaise (cl 2) ["field"] (pCons (pVar 7) pNil))
  sNext)
  (sSeq (sFldO (cl 3) 0 "number" (eP (pVar 1)))
  (sSeq (sFldO (cl 3) 0 "person" (eP (pVar 2)))
  (sSeq (sFldO (cl 3) 0 "house" (eP (pVar 3)))
  (sSeq (sFldO (cl 3) 0 "answers" (eP (pUn oTuple (cVar 4))))
  (sSeq (sFldO (cl 3) 0 "subject" (eP (pUn oTuple (pVar 5))))
  (sSeq (sFldO (cl 3) 0 "words" (eP (pUn oTuple (cVar 6))))
  (sFldO (cl 3) 0 "sender" (eP (pJs [(pUn oFmt (pVar 2)), (pC (.str " at ")), (pUn oFmt (pVar 3))] Str.empty)))))))))))
def f_Letter_init (cl : Nat → Addr) : FN := fnF 7 8 [7] (b_Letter_init cl)

theorem ok_Letter_init {f : Addr} {fd : FuncData} {dvs : List V} {kws : List (Str × V)} (F : FunD K "__init__" "Letter.__init__" (defArgs s_Letter_init) (defBody s_Letter_init) (defScope s_Letter_init) dvs kws f fd) {f_wrong_field_ : Addr} {fd_wrong_field : FuncData} {f_BadLetter_init_ : Addr} {fd_BadLetter_init : FuncData} (G_wrong_field : FnOk P w K mg base CX0 3 f_wrong_field_ fd_wrong_field ["number", "person", "house", "answers", "subject", "words"] (spF K (f_wrong_field cl))) (g_wrong_field : mg "wrong_field" = some (.ref f_wrong_field_)) (k_wrong_field : PySem.W.keepIn K (.ref f_wrong_field_) = true) (b_wrong_field : Binds K fd_wrong_field ["number", "person", "house", "answers", "subject", "words"] []) (g_BadLetter : mg "BadLetter" = some (.ref (cl 2))) (x_BadLetter : OexC K (cl 2)) (i_BadLetter : PySem.W.findIn K (.ref (cl 2)) "__init__" = some (some (.ref f_BadLetter_init_))) (t_BadLetter : PySem.W.typeIn K (.ref f_BadLetter_init_) = some (.type "function")) (G_BadLetter_init : FnOk P w K mg base CX0 1 f_BadLetter_init_ fd_BadLetter_init ["self", "field"] (spXI (cl 2) ["field"])) (b_BadLetter_init : Binds K fd_BadLetter_init ["self", "field"] []) (c_Letter : Cls K (cl 3)) (n_Letter_number : NoAttr K (cl 3) "number") (n_Letter_person : NoAttr K (cl 3) "person") (n_Letter_house : NoAttr K (cl 3) "house") (n_Letter_answers : NoAttr K (cl 3) "answers") (n_Letter_subject : NoAttr K (cl 3) "subject") (n_Letter_words : NoAttr K (cl 3) "words") (n_Letter_sender : NoAttr K (cl 3) "sender") (m_tuple : mg "tuple" = none) : FnOk P w K mg base (CX P w) 4 f fd ["self", "number", "person", "house", "answers", "subject", "words"] (spF K (f_Letter_init cl)) :=
  okFD F sc_Letter_init rfl rfl (by decide) fun cdv A outer s H E hr => ⟨_, (pss_cons (ps_set (i := 7) sc_Letter_init.nd rfl (.inl rfl) (pe_call G_wrong_field (hr.mono (by decide)) rfl g_wrong_field k_wrong_field b_wrong_field .nil pass0 (pa_cons (pv 1) (pa_cons (pv 2) (pa_cons (pv 3) (pa_cons (pv 4) (pa_cons (pv 5) (pa_cons (pv 6) pa_nil))))))))
      (pss_cons (ps_if (pt_cmpR op_notN (pv 7) pe_non (nomark _))
      (pss_one (ps_raise rfl (takes_of rfl rfl rfl rfl) (pmk_oex x_BadLetter i_BadLetter t_BadLetter G_BadLetter_init (hr.mono (by decide)) b_BadLetter_init .nil pass0 rfl g_BadLetter (pa_cons (pv 7) pa_nil))))
      pss_nil)
      (pss_cons (ps_fld (pv 0) (pv 1) rfl)
      (pss_cons (ps_fld (pv 0) (pv 2) rfl)
      (pss_cons (ps_fld (pv 0) (pv 3) rfl)
      (pss_cons (ps_fld (pv 0) (pe_callTy call_tuple_of rfl m_tuple (by decide +kernel) (pa_cons (pv 4) pa_nil)) rfl)
      (pss_cons (ps_fld (pv 0) (pe_callTy call_tuple_of rfl m_tuple (by decide +kernel) (pa_cons (pv 5) pa_nil)) rfl)
      (pss_cons (ps_fld (pv 0) (pe_callTy call_tuple_of rfl m_tuple (by decide +kernel) (pa_cons (pv 6) pa_nil)) rfl)
      (pss_one (ps_fld (pv 0) (pe_joined (.cons (pe_fmt (pv 2)) (.cons pe_str (.cons (pe_fmt (pv 3)) .nil)))) rfl)))))))))),
    (rs_seq (rs_asgD (ef_call (efa_cons (ef_p (pu_var 1)) (efa_cons (ef_p (pu_var 2)) (efa_cons (ef_p (pu_var 3)) (efa_bor 4 (efa_cons (ef_p (pu_var 5)) (efa_bor 6 efa_nil))))))) (by decide))
      (rs_seq (rs_if (eft_p (put_test (pu_op (Pu.c (pu_var 7)) (Pu.c pu_non) notN_t)))
      (rs_raise (pa_cons_ (pu_var 7) pa_nil_))
      rs_next)
      (rs_seq (rs_fldO c_Letter n_Letter_number (ef_p (pu_var 1)))
      (rs_seq (rs_fldO c_Letter n_Letter_person (ef_p (pu_var 2)))
      (rs_seq (rs_fldO c_Letter n_Letter_house (ef_p (pu_var 3)))
      (rs_seq (rs_fldO c_Letter n_Letter_answers (ef_p (pu_call1 (cu_var 4) tuple_t)))
      (rs_seq (rs_fldO c_Letter n_Letter_subject (ef_p (pu_call1 (Pu.c (pu_var 5)) tuple_t)))
      (rs_seq (rs_fldO c_Letter n_Letter_words (ef_p (pu_call1 (cu_var 6) tuple_t)))
      (rs_fldO c_Letter n_Letter_sender (ef_p (pu_js (.cons (pu_fmt (pu_var 2)) (.cons pu_str (.cons (pu_fmt (pu_var 3)) .nil))))))))))))))⟩

abbrev s_Letter_eq : Stmt := methS 16 3
theorem sc_Letter_eq : FnScope ["self", "other"] ["self", "other"] (defScope s_Letter_eq) := ⟨rfl, rfl, rfl, by decide +kernel, rfl, by decide +kernel, by decide +kernel⟩

def b_Letter_eq (cl : Nat → Addr) : List T → Option O :=
  (sRet (eP (pAnd (pOp (oIsiO (cl 3)) (pVar 1) (pC (.raw (.ref (cl 3))))) (pAnd (pOp oEq (pFld (cl 3) ["number", "person", "house", "answers", "subject", "words", "sender"] 0 (pVar 0)) (pFld (cl 3) ["number", "person", "house", "answers", "subject", "words", "sender"] 0 (pVar 1))) (pAnd (pOp oEq (pFld (cl 3) ["number", "person", "house", "answers", "subject", "words", "sender"] 1 (pVar 0)) (pFld (cl 3) ["number", "person", "house", "answers", "subject", "words", "sender"] 1 (pVar 1))) (pAnd (pOp oEq (pFld (cl 3) ["number", "person", "house", "answers", "subject", "words", "sender"] 2 (pVar 0)) (pFld (cl 3) ["number", "person", "house", "answers", "subject", "words", "sender"] 2 (pVar 1))) (pAnd (pOp oEq (pFld (cl 3) ["number", "person", "house", "answers", "subject", "words", "sender"] 3 (pVar 0)) (pFld (cl 3) ["number", "person", "house", "answers", "subject", "words", "sender"] 3 (pVar 1))) (pAnd (pOp oEq (pFld (cl 3) ["number", "person", "house", "answers", "subject", "words", "sender"] 4 (pVar 0)) (pFld (cl 3) ["number", "person", "house", "answers", "subject", "words", "sender"] 4 (pVar 1))) (pOp oEq (pFld (cl 3) ["number", "person", "house", "answers", "subject", "words", "sender"] 5 (pVar 0)) (pFld (cl 3) ["number", "person", "house", "answers", "subject", "words", "sender"] 5 (pVar 1)))))))))))
def f_Letter_eq (cl : Nat → Addr) : FN := fnF 2 2 [] (b_Letter_eq cl)

theorem ok_Letter_eq {f : Addr} {fd : FuncData} (F : Fun K "__eq__" "Letter.__eq__" s_Letter_eq f fd) (cf_Letter : ClsF K (cl 3) ["number", "person", "house", "answers", "subject", "words", "sender"]) (g_Letter : mg "Letter" = some (.ref (cl 3))) (io_Letter : IsiO K (cl 3)) (m_isinstance : mg "isinstance" = none) : FnOk P w K mg base CX0 1 f fd ["self", "other"] (spF K (f_Letter_eq cl)) :=
  okF F sc_Letter_eq rfl rfl (by decide) fun cdv A outer s H E hr => ⟨_, (pss_one (ps_ret (pe_and (pe_callB call_isi rfl m_isinstance (by decide +kernel) (pa_cons (pv 1) (pa_cons (pe_glob (v := .ref (cl 3)) rfl g_Letter rfl) pa_nil))) (pe_and (pe_cmpR (op_eqA (hu64 hr)) (pe_fld (pv 0) rfl) (pe_fld (pv 1) rfl) (nomark _)) (pe_and (pe_cmpR (op_eqA (hu64 hr)) (pe_fld (pv 0) rfl) (pe_fld (pv 1) rfl) (nomark _)) (pe_and (pe_cmpR (op_eqA (hu64 hr)) (pe_fld (pv 0) rfl) (pe_fld (pv 1) rfl) (nomark _)) (pe_and (pe_cmpR (op_eqA (hu64 hr)) (pe_fld (pv 0) rfl) (pe_fld (pv 1) rfl) (nomark _)) (pe_and (pe_cmpR (op_eqA (hu64 hr)) (pe_fld (pv 0) rfl) (pe_fld (pv 1) rfl) (nomark _)) (pe_one (pe_cmpR (op_eqA (hu64 hr)) (pe_fld (pv 0) rfl) (pe_fld (pv 1) rfl) (nomark _))))))))))),
    (rs_ret (ef_p (pu_and (pu_call2 (Pu.c (pu_var 1)) (Pu.c pu_raw) (isiO_t io_Letter)) (pu_and (pu_op (Pu.c (pu_fld cf_Letter rfl (pu_var 0))) (Pu.c (pu_fld cf_Letter rfl (pu_var 1))) eq_t) (pu_and (pu_op (Pu.c (pu_fld cf_Letter rfl (pu_var 0))) (Pu.c (pu_fld cf_Letter rfl (pu_var 1))) eq_t) (pu_and (pu_op (Pu.c (pu_fld cf_Letter rfl (pu_var 0))) (Pu.c (pu_fld cf_Letter rfl (pu_var 1))) eq_t) (pu_and (pu_op (Pu.c (pu_fld cf_Letter rfl (pu_var 0))) (Pu.c (pu_fld cf_Letter rfl (pu_var 1))) eq_t) (pu_and (pu_op (Pu.c (pu_fld cf_Letter rfl (pu_var 0))) (Pu.c (pu_fld cf_Letter rfl (pu_var 1))) eq_t) (pu_op (Pu.c (pu_fld cf_Letter rfl (pu_var 0))) (Pu.c (pu_fld cf_Letter rfl (pu_var 1))) eq_t)))))))))⟩

abbrev s_law_letter : Stmt := topS 30
theorem sc_law_letter : FnScope ["_law_fields_here"] ["_law_fields_here"] (defScope s_law_letter) := ⟨rfl, rfl, rfl, by decide +kernel, rfl, by decide +kernel, by decide +kernel⟩

def b_law_letter (cl : Nat → Addr) : List T → Option O :=
  (sRet (eMake (cl 3) (f_Letter_init cl) [none, none, none, none, none, none] [none, none, none, none, none, none] (aCons (eP (pOp oIx (cVar 0) (pC (.int 0)))) (aCons (eP (pOp oIx (cVar 0) (pC (.int 1)))) (aCons (eP (pOp oIx (cVar 0) (pC (.int 2)))) (aCons (eP (pUn oList (pOp oIx (cVar 0) (pC (.int 3))))) (aCons (eP (pUn oList (pOp oIx (cVar 0) (pC (.int 4))))) (aCons (eP (pUn oList (pOp oIx (cVar 0) (pC (.int 5))))) aNil))))))))
def f_law_letter (cl : Nat → Addr) : FN := fnF 1 1 [] (b_law_letter cl)

theorem ok_law_letter {f : Addr} {fd : FuncData} (F : Fun K "_law_letter" "_law_letter" s_law_letter f fd) {f_Letter_init_ : Addr} {fd_Letter_init : FuncData} {gv_Letter_3_answers_subject_words : List Value → List Value → List Value} (G_Letter_init : FnOk P w K mg base (CX P w) 4 f_Letter_init_ fd_Letter_init ["self", "number", "person", "house", "answers", "subject", "words"] (spF K (f_Letter_init cl))) (g_Letter : mg "Letter" = some (.ref (cl 3))) (M_Letter : Mk K (cl 3) f_Letter_init_) (kb_Letter_3_answers_subject_words : KBn K fd_Letter_init ["self", "number", "person", "house", "answers", "subject", "words"] 4 ["answers", "subject", "words"] gv_Letter_3_answers_subject_words (fun vs zs => vs ++ zs)) (m_list : mg "list" = none) : FnOk P w K mg base CX0 6 f fd ["_law_fields_here"] (spF K (f_law_letter cl)) :=
  okF F sc_law_letter rfl rfl (by decide) fun cdv A outer s H E hr => ⟨_, (pss_one (ps_ret (pe_makeKS M_Letter G_Letter_init (hr.mono (by decide)) rfl g_Letter kb_Letter_3_answers_subject_words (passAt takes0) (pa_cons (pe_ix ix_seq (pv 0) pe_int (fun _ _ => rfl)) (pa_cons (pe_ix ix_seq (pv 0) pe_int (fun _ _ => rfl)) (pa_cons (pe_ix ix_seq (pv 0) pe_int (fun _ _ => rfl)) pa_nil))) (pk_cons (pe_callTy call_list_of rfl m_list (by decide +kernel) (pa_cons (pe_ix ix_seq (pv 0) pe_int (fun _ _ => rfl)) pa_nil)) (pk_cons (pe_callTy call_list_of rfl m_list (by decide +kernel) (pa_cons (pe_ix ix_seq (pv 0) pe_int (fun _ _ => rfl)) pa_nil)) (pk_cons (pe_callTy call_list_of rfl m_list (by decide +kernel) (pa_cons (pe_ix ix_seq (pv 0) pe_int (fun _ _ => rfl)) pa_nil)) pk_nil)))))),
    (rs_ret (ef_makeKS (P := [none, none, none, none, none, none]) (l1 := [_, _, _]) (l2 := [_, _, _]) (fun I q hq => by simp at hq) (efa_cons (ef_p (pu_op (cu_var 0) (Pu.c pu_int) ix_t)) (efa_cons (ef_p (pu_op (cu_var 0) (Pu.c pu_int) ix_t)) (efa_cons (ef_p (pu_op (cu_var 0) (Pu.c pu_int) ix_t)) (efa_cons (ef_p (pu_call1 (Pu.c (pu_op (cu_var 0) (Pu.c pu_int) ix_t)) list_t)) (efa_cons (ef_p (pu_call1 (Pu.c (pu_op (cu_var 0) (Pu.c pu_int) ix_t)) list_t)) (efa_cons (ef_p (pu_call1 (Pu.c (pu_op (cu_var 0) (Pu.c pu_int) ix_t)) list_t)) efa_nil)))))) rfl rfl rfl (fun x vs zs h1 h2 => match vs, zs, h1, h2 with | [_, _, _], [_, _, _], _, _ => rfl)))⟩

abbrev s_law_caught : Stmt := topS 33
theorem sc_law_caught : FnScope ["_law_fields_here"] ["_law_fields_here"] (defScope s_law_caught) := ⟨rfl, rfl, rfl, by decide +kernel, rfl, by decide +kernel, by decide +kernel⟩

def b_law_caught (cl : Nat → Addr) : List T → Option O :=
  (sSeq (sNoX (sTryH [([((cl 0), true), ((cl 1), true), ((cl 2), true)], none, fun _ _ => (sRet (eP (pC (.bl true)))))] (sExprX (xMake (cl 3) (f_Letter_init cl) [none, none, none, none, none, none] [none, none, none, none, none, none] (aCons (eP (pOp oIx (cVar 0) (pC (.int 0)))) (aCons (eP (pOp oIx (cVar 0) (pC (.int 1)))) (aCons (eP (pOp oIx (cVar 0) (pC (.int 2)))) (aCons (eP (pOp oIx (cVar 0) (pC (.int 3)))) (aCons (eP (pOp oIx (cVar 0) (pC (.int 4)))) (aCons (eP (pOp oIx (cVar 0) (pC (.int 5)))) aNil))))))))))
  (sRet (eP (pC (.bl false)))))
def f_law_caught (cl : Nat → Addr) : FN := fnF 1 1 [] (b_law_caught cl)

theorem ok_law_caught {f : Addr} {fd : FuncData} (F : Fun K "_law_caught" "_law_caught" s_law_caught f fd) {f_Letter_init_ : Addr} {fd_Letter_init : FuncData} {gv_Letter_3_answers_subject_words : List Value → List Value → List Value} (G_Letter_init : FnOk P w K mg base (CX P w) 4 f_Letter_init_ fd_Letter_init ["self", "number", "person", "house", "answers", "subject", "words"] (spF K (f_Letter_init cl))) (g_Letter : mg "Letter" = some (.ref (cl 3))) (M_Letter : Mk K (cl 3) f_Letter_init_) (kb_Letter_3_answers_subject_words : KBn K fd_Letter_init ["self", "number", "person", "house", "answers", "subject", "words"] 4 ["answers", "subject", "words"] gv_Letter_3_answers_subject_words (fun vs zs => vs ++ zs)) (g_MailError : mg "MailError" = some (.ref (cl 0))) (xm_MailError_MailError : PySem.W.exmOne K (.ref (cl 0)) (.ref (cl 0)) = some true) (xm_Clash_MailError : PySem.W.exmOne K (.ref (cl 1)) (.ref (cl 0)) = some true) (xm_BadLetter_MailError : PySem.W.exmOne K (.ref (cl 2)) (.ref (cl 0)) = some true) : FnOk P w K mg base CX0 6 f fd ["_law_fields_here"] (spF K (f_law_caught cl)) :=
  okF F sc_law_caught rfl rfl (by decide) fun cdv A outer s H E hr => ⟨_, (pss_cons (ps_try_hds rfl rfl takes0 (fun W pn xe hT hP => (pss_one (ps_expr (pe_makeKS M_Letter G_Letter_init (hr.mono (by decide)) rfl g_Letter kb_Letter_3_answers_subject_words (passAt hT) (pa_cons (pe_ix ix_seq (pv 0) pe_int (fun _ _ => rfl)) (pa_cons (pe_ix ix_seq (pv 0) pe_int (fun _ _ => rfl)) (pa_cons (pe_ix ix_seq (pv 0) pe_int (fun _ _ => rfl)) pa_nil))) (pk_cons (pe_ix ix_seq (pv 0) pe_int (fun _ _ => rfl)) (pk_cons (pe_ix ix_seq (pv 0) pe_int (fun _ _ => rfl)) (pk_cons (pe_ix ix_seq (pv 0) pe_int (fun _ _ => rfl)) pk_nil))))))) (.only ⟨rfl, by decide, .inl g_MailError⟩ (fun a oe cls d pn hz hv => (pss_one (ps_ret pe_bl))) .nil))
      (pss_one (ps_ret pe_bl))),
    (rs_seq (rs_noX (rs_try_hds (fun W => (rs_exprX (efx_makeK (P := [none, none, none, none, none, none]) (l1 := [_, _, _]) (l2 := [_, _, _]) (fun I q hq => by simp at hq) (efa_cons (ef_p (pu_op (cu_var 0) (Pu.c pu_int) ix_t)) (efa_cons (ef_p (pu_op (cu_var 0) (Pu.c pu_int) ix_t)) (efa_cons (ef_p (pu_op (cu_var 0) (Pu.c pu_int) ix_t)) (efa_cons (ef_p (pu_op (cu_var 0) (Pu.c pu_int) ix_t)) (efa_cons (ef_p (pu_op (cu_var 0) (Pu.c pu_int) ix_t)) (efa_cons (ef_p (pu_op (cu_var 0) (Pu.c pu_int) ix_t)) efa_nil)))))) rfl rfl rfl (fun x vs zs h1 h2 => match vs, zs, h1, h2 with | [_, _, _], [_, _, _], _, _ => rfl)))) (.only (cs := [((cl 0), true), ((cl 1), true), ((cl 2), true)]) (lk_cons xm_MailError_MailError (lk_cons xm_Clash_MailError (lk_cons xm_BadLetter_MailError lk_nil))) (fun _ _ _ => (rs_ret (ef_p pu_bl))) .nil)))
      (rs_ret (ef_p pu_bl)))⟩

abbrev s_law_refused : Stmt := topS 32
theorem sc_law_refused : FnScope ["_law_fields_here", "_law_told", "error"] ["_law_fields_here"] (defScope s_law_refused) := ⟨rfl, rfl, rfl, by decide +kernel, rfl, by decide +kernel, by decide +kernel⟩

def b_law_refused (cl : Nat → Addr) : List T → Option O :=
  (sSeq (sAsgD 1 (eP (pC .non)))
  (sSeq (sNoX (sTryH [([((cl 0), false), ((cl 1), true), ((cl 2), false)], none, fun _ _ => (sRet (eP (pC (.str "clash"))))), ([((cl 0), false), ((cl 1), false), ((cl 2), true)], some 2, (hAsg (cl 2) 1 "field"))] (sExprX (xMake (cl 3) (f_Letter_init cl) [none, none, none, none, none, none] [none, none, none, none, none, none] (aCons (eP (pOp oIx (cVar 0) (pC (.int 0)))) (aCons (eP (pOp oIx (cVar 0) (pC (.int 1)))) (aCons (eP (pOp oIx (cVar 0) (pC (.int 2)))) (aCons (eP (pOp oIx (cVar 0) (pC (.int 3)))) (aCons (eP (pOp oIx (cVar 0) (pC (.int 4)))) (aCons (eP (pOp oIx (cVar 0) (pC (.int 5)))) aNil))))))))))
  (sRet (eP (pVar 1)))))
def f_law_refused (cl : Nat → Addr) : FN := fnF 1 3 [1, 2] (b_law_refused cl)

theorem ok_law_refused {f : Addr} {fd : FuncData} (F : Fun K "_law_refused" "_law_refused" s_law_refused f fd) {f_Letter_init_ : Addr} {fd_Letter_init : FuncData} {gv_Letter_3_answers_subject_words : List Value → List Value → List Value} (G_Letter_init : FnOk P w K mg base (CX P w) 4 f_Letter_init_ fd_Letter_init ["self", "number", "person", "house", "answers", "subject", "words"] (spF K (f_Letter_init cl))) (g_Letter : mg "Letter" = some (.ref (cl 3))) (M_Letter : Mk K (cl 3) f_Letter_init_) (kb_Letter_3_answers_subject_words : KBn K fd_Letter_init ["self", "number", "person", "house", "answers", "subject", "words"] 4 ["answers", "subject", "words"] gv_Letter_3_answers_subject_words (fun vs zs => vs ++ zs)) (g_BadLetter : mg "BadLetter" = some (.ref (cl 2))) (xm_MailError_BadLetter : PySem.W.exmOne K (.ref (cl 0)) (.ref (cl 2)) = some false) (xm_Clash_BadLetter : PySem.W.exmOne K (.ref (cl 1)) (.ref (cl 2)) = some false) (xm_BadLetter_BadLetter : PySem.W.exmOne K (.ref (cl 2)) (.ref (cl 2)) = some true) (xf_BadLetter : XfC K (cl 2)) (xn_BadLetter_field : PySem.W.findIn K (.ref (cl 2)) "field" = some none) (g_Clash : mg "Clash" = some (.ref (cl 1))) (xm_MailError_Clash : PySem.W.exmOne K (.ref (cl 0)) (.ref (cl 1)) = some false) (xm_Clash_Clash : PySem.W.exmOne K (.ref (cl 1)) (.ref (cl 1)) = some true) (xm_BadLetter_Clash : PySem.W.exmOne K (.ref (cl 2)) (.ref (cl 1)) = some false) : FnOk P w K mg base CX0 6 f fd ["_law_fields_here"] (spF K (f_law_refused cl)) :=
  okF F sc_law_refused rfl rfl (by decide) fun cdv A outer s H E hr => ⟨_, (pss_cons (ps_set (i := 1) sc_law_refused.nd rfl (.inl rfl) pe_non)
      (pss_cons (ps_try_hds rfl rfl takes0 (fun W pn xe hT hP => (pss_one (ps_expr (pe_makeKS M_Letter G_Letter_init (hr.mono (by decide)) rfl g_Letter kb_Letter_3_answers_subject_words (passAt hT) (pa_cons (pe_ix ix_seq (pv 0) pe_int (fun _ _ => rfl)) (pa_cons (pe_ix ix_seq (pv 0) pe_int (fun _ _ => rfl)) (pa_cons (pe_ix ix_seq (pv 0) pe_int (fun _ _ => rfl)) pa_nil))) (pk_cons (pe_ix ix_seq (pv 0) pe_int (fun _ _ => rfl)) (pk_cons (pe_ix ix_seq (pv 0) pe_int (fun _ _ => rfl)) (pk_cons (pe_ix ix_seq (pv 0) pe_int (fun _ _ => rfl)) pk_nil))))))) (.only ⟨rfl, by decide, .inl g_Clash⟩ (fun a oe cls d pn hz hv => (pss_one (ps_ret pe_str))) (.as_ (i := 2) sc_law_refused.nd rfl rfl ⟨rfl, by decide, .inl g_BadLetter⟩ (fun a oe cls d pn hz hv => (pss_one (ps_set (i := 1) sc_law_refused.nd rfl (.inl rfl) (pe_xf xf_BadLetter xn_BadLetter_field hz hv (pv 2))))) .nil)))
      (pss_one (ps_ret (pv 1))))),
    (rs_seq (rs_asgD (ef_p pu_non) (by decide))
      (rs_seq (rs_noX (rs_try_hds (fun W => (rs_exprX (efx_makeK (P := [none, none, none, none, none, none]) (l1 := [_, _, _]) (l2 := [_, _, _]) (fun I q hq => by simp at hq) (efa_cons (ef_p (pu_op (cu_var 0) (Pu.c pu_int) ix_t)) (efa_cons (ef_p (pu_op (cu_var 0) (Pu.c pu_int) ix_t)) (efa_cons (ef_p (pu_op (cu_var 0) (Pu.c pu_int) ix_t)) (efa_cons (ef_p (pu_op (cu_var 0) (Pu.c pu_int) ix_t)) (efa_cons (ef_p (pu_op (cu_var 0) (Pu.c pu_int) ix_t)) (efa_cons (ef_p (pu_op (cu_var 0) (Pu.c pu_int) ix_t)) efa_nil)))))) rfl rfl rfl (fun x vs zs h1 h2 => match vs, zs, h1, h2 with | [_, _, _], [_, _, _], _, _ => rfl)))) (.only (cs := [((cl 0), false), ((cl 1), true), ((cl 2), false)]) (lk_cons xm_MailError_Clash (lk_cons xm_Clash_Clash (lk_cons xm_BadLetter_Clash lk_nil))) (fun _ _ _ => (rs_ret (ef_p pu_str))) (.as_ (cs := [((cl 0), false), ((cl 1), false), ((cl 2), true)]) (by decide) (lk_cons xm_MailError_BadLetter (lk_cons xm_Clash_BadLetter (lk_cons xm_BadLetter_BadLetter lk_nil))) (rh_asg (by decide)) .nil))))
      (rs_ret (ef_p (pu_var 1)))))⟩

abbrev s_law_are_told : Stmt := topS 34
theorem sc_law_are_told : FnScope ["_law_fields_here", "_law_odd", "_law_each"] ["_law_fields_here"] (defScope s_law_are_told) := ⟨rfl, rfl, rfl, by decide +kernel, rfl, by decide +kernel, by decide +kernel⟩

def b_law_are_told (cl : Nat → Addr) : List T → Option O :=
  (sSeq (sIf (eT (bOr (bNot (pTest (pCall (f_is_name cl) (pCons (pOp oIx (pVar 0) (pC (.int 1))) pNil)))) (bOr (bNot (pTest (pCall (f_is_name cl) (pCons (pOp oIx (pVar 0) (pC (.int 2))) pNil)))) (bOr (bNot (pTest (pCall (f_is_number cl) (pCons (pOp oIx (pVar 0) (pC (.int 0))) pNil)))) (pTest (pCall (f_is_number cl) (pCons (pOp oIx (pVar 0) (pC (.int 1))) pNil)))))))
  (sRet (eP (pC (.bl false))))
  sNext)
  (sSeq (sAsgD 1 (eP (pLst (pCons (pC (.str "")) (pCons (pC (.str "abcdefghi")) (pCons (pC (.str "Ann")) (pCons (pC (.str "a b")) (pCons (pC (.str "an9")) (pCons (pC .non) (pCons (pC (.int 5)) (pCons (pLst (pCons (pC (.str "ann")) pNil)) (pCons (pOp oAdd (pOp oIx (pVar 0) (pC (.int 1))) (pC (.str "-"))) (pCons (pUn oUpper (pOp oIx (pVar 0) (pC (.int 1)))) (pCons (pC (.bl true)) pNil))))))))))))))
  (sSeq (sIf (eT (bOr (pTest (pUn oAny (pLc [2] (iAnyF (pVar 1)) (gN 2) bYes (pCall (f_is_name cl) (pCons (pVar 2) pNil))))) (pTest (pCall (f_is_name cl) (pCons (pOp oIx (pVar 0) (pC (.int 0))) pNil)))))
  (sRet (eP (pC (.bl false))))
  sNext)
  (sRet (eP (pNot (pUn oAny (pLc [2] (iAnyF (pLst (pCons (pC (.int 0)) (pCons (pOp oAdd (pOp oPow (pC (.int 10)) (pC (.int 30))) (pC (.int 1))) (pCons (pUn oNeg (pOp oIx (pVar 0) (pC (.int 0)))) (pCons (pC (.bl true)) (pCons (pC (.str "7")) (pCons (pC .non) (pCons (pLst (pCons (pC (.int 1)) pNil)) pNil))))))))) (gN 2) bYes (pCall (f_is_number cl) (pCons (pVar 2) pNil))))))))))
def f_law_are_told (cl : Nat → Addr) : FN := fnF 1 3 [1] (b_law_are_told cl)

theorem ok_law_are_told {f : Addr} {fd : FuncData} (F : Fun K "_law_are_told" "_law_are_told" s_law_are_told f fd) {f_is_number_ : Addr} {fd_is_number : FuncData} {f_is_name_ : Addr} {fd_is_name : FuncData} (G_is_number : FnOk P w K mg base CX0 1 f_is_number_ fd_is_number ["value"] (spF K (f_is_number cl))) (g_is_number : mg "is_number" = some (.ref f_is_number_)) (k_is_number : PySem.W.keepIn K (.ref f_is_number_) = true) (b_is_number : Binds K fd_is_number ["value"] []) (G_is_name : FnOk P w K mg base CX0 1 f_is_name_ fd_is_name ["value"] (spF K (f_is_name cl))) (g_is_name : mg "is_name" = some (.ref f_is_name_)) (k_is_name : PySem.W.keepIn K (.ref f_is_name_) = true) (b_is_name : Binds K fd_is_name ["value"] []) (m_any : mg "any" = none) : FnOk P w K mg base CX0 2 f fd ["_law_fields_here"] (spF K (f_law_are_told cl)) :=
  okF F sc_law_are_told rfl rfl (by decide) fun cdv A outer s H E hr => ⟨_, (pss_cons (ps_if (PW.pt (pw_or (pt_not (pt_val (pe_call G_is_name (hr.mono (by decide)) rfl g_is_name k_is_name b_is_name .nil pass0 (pa_cons (pe_ix ix_seq (pv 0) pe_int (fun _ _ => rfl)) pa_nil)))) (pw_or (pt_not (pt_val (pe_call G_is_name (hr.mono (by decide)) rfl g_is_name k_is_name b_is_name .nil pass0 (pa_cons (pe_ix ix_seq (pv 0) pe_int (fun _ _ => rfl)) pa_nil)))) (pw_or (pt_not (pt_val (pe_call G_is_number (hr.mono (by decide)) rfl g_is_number k_is_number b_is_number .nil pass0 (pa_cons (pe_ix ix_seq (pv 0) pe_int (fun _ _ => rfl)) pa_nil)))) (pw_or1 (pt_val (pe_call G_is_number (hr.mono (by decide)) rfl g_is_number k_is_number b_is_number .nil pass0 (pa_cons (pe_ix ix_seq (pv 0) pe_int (fun _ _ => rfl)) pa_nil))))))))
      (pss_one (ps_ret pe_bl))
      pss_nil)
      (pss_cons (ps_set (i := 1) sc_law_are_told.nd rfl (.inl rfl) (pe_lst (pa_cons pe_str (pa_cons pe_str (pa_cons pe_str (pa_cons pe_str (pa_cons pe_str (pa_cons pe_non (pa_cons pe_int (pa_cons (pe_lst (pa_cons pe_str pa_nil)) (pa_cons (pe_op op_addA (pe_ix ix_seq (pv 0) pe_int (fun _ _ => rfl)) pe_str) (pa_cons (pe_upper (pe_ix ix_seq (pv 0) pe_int (fun _ _ => rfl))) (pa_cons pe_bl pa_nil)))))))))))))
      (pss_cons (ps_if (PW.pt (pw_or (pt_val (pe_callB (cr_any rfl) rfl m_any (by decide +kernel) (pa_cons (pe_lc (own := [("_law_each", 2)])  rfl sc_law_are_told.nd (pi_any (pv 1)) (blkOk_by (N := ["_law_fields_here", "_law_odd", "_law_each"]) (sc := defScope s_law_are_told) (by decide +kernel)) (fun _ _ _ _ _ => (pg_name (i := 2) sc_law_are_told.nd rfl (.inl rfl))) (fun _ _ _ _ _ => pts_nil) (fun _ _ _ _ _ => (pe_call G_is_name (hr.mono (by decide)) rfl g_is_name k_is_name b_is_name .nil pass0 (pa_cons (pv 2) pa_nil)))) pa_nil))) (pw_or1 (pt_val (pe_call G_is_name (hr.mono (by decide)) rfl g_is_name k_is_name b_is_name .nil pass0 (pa_cons (pe_ix ix_seq (pv 0) pe_int (fun _ _ => rfl)) pa_nil))))))
      (pss_one (ps_ret pe_bl))
      pss_nil)
      (pss_one (ps_ret (pe_not (pe_callB (cr_any rfl) rfl m_any (by decide +kernel) (pa_cons (pe_lc (own := [("_law_each", 2)])  rfl sc_law_are_told.nd (pi_any (pe_lst (pa_cons pe_int (pa_cons (pe_op op_addA (pe_op op_pow pe_int pe_int) pe_int) (pa_cons (pe_un un_neg (pe_ix ix_seq (pv 0) pe_int (fun _ _ => rfl))) (pa_cons pe_bl (pa_cons pe_str (pa_cons pe_non (pa_cons (pe_lst (pa_cons pe_int pa_nil)) pa_nil))))))))) (blkOk_by (N := ["_law_fields_here", "_law_odd", "_law_each"]) (sc := defScope s_law_are_told) (by decide +kernel)) (fun _ _ _ _ _ => (pg_name (i := 2) sc_law_are_told.nd rfl (.inl rfl))) (fun _ _ _ _ _ => pts_nil) (fun _ _ _ _ _ => (pe_call G_is_number (hr.mono (by decide)) rfl g_is_number k_is_number b_is_number .nil pass0 (pa_cons (pv 2) pa_nil)))) pa_nil)))))))),
    (rs_seq (rs_if (eft_p (put_or (put_not (put_b (pu_call (pa_cons_ (pu_op (Pu.c (pu_var 0)) (Pu.c pu_int) ix_t) pa_nil_)))) (put_or (put_not (put_b (pu_call (pa_cons_ (pu_op (Pu.c (pu_var 0)) (Pu.c pu_int) ix_t) pa_nil_)))) (put_or (put_not (put_b (pu_call (pa_cons_ (pu_op (Pu.c (pu_var 0)) (Pu.c pu_int) ix_t) pa_nil_)))) (put_b (pu_call (pa_cons_ (pu_op (Pu.c (pu_var 0)) (Pu.c pu_int) ix_t) pa_nil_)))))))
      (rs_ret (ef_p pu_bl))
      rs_next)
      (rs_seq (rs_asgD (ef_p (pu_lst (pa_cons_ pu_str (pa_cons_ pu_str (pa_cons_ pu_str (pa_cons_ pu_str (pa_cons_ pu_str (pa_cons_ pu_non (pa_cons_ pu_int (pa_cons_ (pu_lst (pa_cons_ pu_str pa_nil_)) (pa_cons_ (pu_op (Pu.c (pu_op (Pu.c (pu_var 0)) (Pu.c pu_int) ix_t)) (Pu.c pu_str) add_t) (pa_cons_ (pu_upper (pu_op (Pu.c (pu_var 0)) (Pu.c pu_int) ix_t)) (pa_cons_ pu_bl pa_nil_))))))))))))) (by decide))
      (rs_seq (rs_if (eft_p (put_or (put_b (pu_call1 (Pu.c (pu_lc (its_any (fz := true) (pu_var 1)) (rg_n (by decide)) put_yes (pu_call (pa_cons_ (pu_var 2) pa_nil_)))) any_t)) (put_b (pu_call (pa_cons_ (pu_op (Pu.c (pu_var 0)) (Pu.c pu_int) ix_t) pa_nil_)))))
      (rs_ret (ef_p pu_bl))
      rs_next)
      (rs_ret (ef_p (pu_not (pu_call1 (Pu.c (pu_lc (its_any (fz := true) (pu_lst (pa_cons_ pu_int (pa_cons_ (pu_op (Pu.c (pu_op (Pu.c pu_int) (Pu.c pu_int) pow_t)) (Pu.c pu_int) add_t) (pa_cons_ (pu_un (Pu.c (pu_op (Pu.c (pu_var 0)) (Pu.c pu_int) ix_t)) neg_t) (pa_cons_ pu_bl (pa_cons_ pu_str (pa_cons_ pu_non (pa_cons_ (pu_lst (pa_cons_ pu_int pa_nil_)) pa_nil_))))))))) (rg_n (by decide)) put_yes (pu_call (pa_cons_ (pu_var 2) pa_nil_)))) any_t)))))))⟩

abbrev s_law_is_made : Stmt := topS 35
theorem sc_law_is_made : FnScope ["_law_fields_here", "_law_answers_here", "_law_subject", "_law_words", "_law_letter_here"] ["_law_fields_here"] (defScope s_law_is_made) := ⟨rfl, rfl, rfl, by decide +kernel, rfl, by decide +kernel, by decide +kernel⟩

def b_law_is_made (cl : Nat → Addr) : List T → Option O :=
  (sSeq (sPar [1, 2, 3] (aCons (eList (pOp oIx (pVar 0) (pC (.int 3)))) (aCons (eP (pUn oList (pOp oIx (pVar 0) (pC (.int 4))))) (aCons (eList (pOp oIx (pVar 0) (pC (.int 5)))) aNil))))
  (sSeq (sAsgD 4 (eMake (cl 3) (f_Letter_init cl) [none, none, none, none, none, none] [none, none, none, some 1, none, some 3] (aCons (eP (pOp oIx (pVar 0) (pC (.int 0)))) (aCons (eP (pOp oIx (pVar 0) (pC (.int 1)))) (aCons (eP (pOp oIx (pVar 0) (pC (.int 2)))) (aBor 1 (aCons (eP (pUn oTuple (pVar 2))) (aBor 3 aNil))))))))
  (sSeq (sIf (eT (bOr (pTest (pOp oNe (cVar 1) (pOp oIx (pVar 0) (pC (.int 3))))) (bOr (pTest (pOp oNe (pVar 2) (pOp oIx (pVar 0) (pC (.int 4))))) (pTest (pOp oNe (cVar 3) (pOp oIx (pVar 0) (pC (.int 5))))))))
  (sRet (eP (pC (.bl false))))
  sNext)
  (sSeq (sAppV 1 (eP (pC (.int 1))))
  (sSeq (sAppV 3 (eP (pC (.str "late"))))
  (sSeq (sIf (eT (bOr (pTest (pOp oNe (pFld (cl 3) ["number", "person", "house", "answers", "subject", "words", "sender"] 0 (pVar 4)) (pOp oIx (pVar 0) (pC (.int 0))))) (pTest (pOp oIsi2 (pFld (cl 3) ["number", "person", "house", "answers", "subject", "words", "sender"] 0 (pVar 4)) (pC (.raw (.ty "bool")))))))
  (sRet (eP (pC (.bl false))))
  sNext)
  (sSeq (sIf (eT (bOr (pTest (pOp oNe (pFld (cl 3) ["number", "person", "house", "answers", "subject", "words", "sender"] 1 (pVar 4)) (pOp oIx (pVar 0) (pC (.int 1))))) (pTest (pOp oNe (pFld (cl 3) ["number", "person", "house", "answers", "subject", "words", "sender"] 2 (pVar 4)) (pOp oIx (pVar 0) (pC (.int 2)))))))
  (sRet (eP (pC (.bl false))))
  sNext)
  (sSeq (sIf (eT (pTest (pOp oNe (pFld (cl 3) ["number", "person", "house", "answers", "subject", "words", "sender"] 6 (pVar 4)) (pOp oAdd (pOp oAdd (pOp oIx (pVar 0) (pC (.int 1))) (pC (.str " at "))) (pOp oIx (pVar 0) (pC (.int 2)))))))
  (sRet (eP (pC (.bl false))))
  sNext)
  (sSeq (sIf (eT (bOr (pTest (pOp oNe (pFld (cl 3) ["number", "person", "house", "answers", "subject", "words", "sender"] 3 (pVar 4)) (pUn oTuple (pOp oIx (pVar 0) (pC (.int 3)))))) (pTest (pOp oNe (pFld (cl 3) ["number", "person", "house", "answers", "subject", "words", "sender"] 4 (pVar 4)) (pUn oTuple (pOp oIx (pVar 0) (pC (.int 4))))))))
  (sRet (eP (pC (.bl false))))
  sNext)
  (sRet (eP (pAnd (pOp oEq (pFld (cl 3) ["number", "person", "house", "answers", "subject", "words", "sender"] 5 (pVar 4)) (pUn oTuple (pOp oIx (pVar 0) (pC (.int 5))))) (pAnd (pOp (oOwnEq (cl 3) (f_Letter_eq cl)) (pVar 4) (pCall (f_law_letter cl) (pCons (pVar 0) pNil))) (pOp (oOwnNe (cl 3) (f_Letter_eq cl)) (pVar 4) (pFld (cl 3) ["number", "person", "house", "answers", "subject", "words", "sender"] 0 (pVar 4))))))))))))))))
def f_law_is_made (cl : Nat → Addr) : FN := fnF 1 5 [1, 2, 3, 4] (b_law_is_made cl)

theorem ok_law_is_made {f : Addr} {fd : FuncData} (F : Fun K "_law_is_made" "_law_is_made" s_law_is_made f fd) {f_Letter_init_ : Addr} {fd_Letter_init : FuncData} {gv_Letter_3_answers_subject_words : List Value → List Value → List Value} {f_Letter_eq_ : Addr} {fd_Letter_eq : FuncData} {f_law_letter_ : Addr} {fd_law_letter : FuncData} (G_Letter_init : FnOk P w K mg base (CX P w) 4 f_Letter_init_ fd_Letter_init ["self", "number", "person", "house", "answers", "subject", "words"] (spF K (f_Letter_init cl))) (g_Letter : mg "Letter" = some (.ref (cl 3))) (M_Letter : Mk K (cl 3) f_Letter_init_) (kb_Letter_3_answers_subject_words : KBn K fd_Letter_init ["self", "number", "person", "house", "answers", "subject", "words"] 4 ["answers", "subject", "words"] gv_Letter_3_answers_subject_words (fun vs zs => vs ++ zs)) (cf_Letter : ClsF K (cl 3) ["number", "person", "house", "answers", "subject", "words", "sender"]) (G_Letter_eq : FnOk P w K mg base CX0 1 f_Letter_eq_ fd_Letter_eq ["self", "other"] (spF K (f_Letter_eq cl))) (b_Letter_eq : Binds K fd_Letter_eq ["self", "other"] []) (eq_Letter : EqCls K (cl 3) f_Letter_eq_) (G_law_letter : FnOk P w K mg base CX0 6 f_law_letter_ fd_law_letter ["_law_fields_here"] (spF K (f_law_letter cl))) (g_law_letter : mg "_law_letter" = some (.ref f_law_letter_)) (k_law_letter : PySem.W.keepIn K (.ref f_law_letter_) = true) (b_law_letter : Binds K fd_law_letter ["_law_fields_here"] []) (m_bool : mg "bool" = none) (m_isinstance : mg "isinstance" = none) (m_list : mg "list" = none) (m_tuple : mg "tuple" = none) : FnOk P w K mg base CX0 7 f fd ["_law_fields_here"] (spF K (f_law_is_made cl)) :=
  okF F sc_law_is_made rfl rfl (by decide) fun cdv A outer s H E hr => ⟨_, (pss_cons (ps_par3 (i := 1) (j := 2) (l := 3) rfl sc_law_is_made.nd rfl rfl rfl (by decide) (by decide) (by decide) rfl rfl rfl (pa_cons (pe_callTy call_list_of rfl m_list (by decide +kernel) (pa_cons (pe_ix ix_seq (pv 0) pe_int (fun _ _ => rfl)) pa_nil)) (pa_cons (pe_callTy call_list_of rfl m_list (by decide +kernel) (pa_cons (pe_ix ix_seq (pv 0) pe_int (fun _ _ => rfl)) pa_nil)) (pa_cons (pe_callTy call_list_of rfl m_list (by decide +kernel) (pa_cons (pe_ix ix_seq (pv 0) pe_int (fun _ _ => rfl)) pa_nil)) pa_nil))) rfl)
      (pss_cons (ps_set (i := 4) sc_law_is_made.nd rfl (.inl rfl) (pe_makeKS M_Letter G_Letter_init (hr.mono (by decide)) rfl g_Letter kb_Letter_3_answers_subject_words (passAt takes0) (pa_cons (pe_ix ix_seq (pv 0) pe_int (fun _ _ => rfl)) (pa_cons (pe_ix ix_seq (pv 0) pe_int (fun _ _ => rfl)) (pa_cons (pe_ix ix_seq (pv 0) pe_int (fun _ _ => rfl)) pa_nil))) (pk_cons (pv 1) (pk_cons (pe_callTy call_tuple_of rfl m_tuple (by decide +kernel) (pa_cons (pv 2) pa_nil)) (pk_cons (pv 3) pk_nil)))))
      (pss_cons (ps_if (PW.pt (pw_or (pt_cmpR (op_neA (hu64 hr)) (pv 1) (pe_ix ix_seq (pv 0) pe_int (fun _ _ => rfl)) (nomark _)) (pw_or (pt_cmpR (op_neA (hu64 hr)) (pv 2) (pe_ix ix_seq (pv 0) pe_int (fun _ _ => rfl)) (nomark _)) (pw_or1 (pt_cmpR (op_neA (hu64 hr)) (pv 3) (pe_ix ix_seq (pv 0) pe_int (fun _ _ => rfl)) (nomark _))))))
      (pss_one (ps_ret pe_bl))
      pss_nil)
      (pss_cons (ps_expr (pe_bm PySem.F.plainAttrs_list PySem.F.slot_list_append PySem.F.type_list_append mt_append (pv 1) (pa_cons pe_int pa_nil)))
      (pss_cons (ps_expr (pe_bm PySem.F.plainAttrs_list PySem.F.slot_list_append PySem.F.type_list_append mt_append (pv 3) (pa_cons pe_str pa_nil)))
      (pss_cons (ps_if (PW.pt (pw_or (pt_cmpR (op_neA (hu64 hr)) (pe_fld (pv 4) rfl) (pe_ix ix_seq (pv 0) pe_int (fun _ _ => rfl)) (nomark _)) (pw_or1 (pt_val (pe_callB call_isi rfl m_isinstance (by decide +kernel) (pa_cons (pe_fld (pv 4) rfl) (pa_cons (pe_bltn (v := .ty "bool") rfl m_bool (by decide +kernel) rfl) pa_nil)))))))
      (pss_one (ps_ret pe_bl))
      pss_nil)
      (pss_cons (ps_if (PW.pt (pw_or (pt_cmpR (op_neA (hu64 hr)) (pe_fld (pv 4) rfl) (pe_ix ix_seq (pv 0) pe_int (fun _ _ => rfl)) (nomark _)) (pw_or1 (pt_cmpR (op_neA (hu64 hr)) (pe_fld (pv 4) rfl) (pe_ix ix_seq (pv 0) pe_int (fun _ _ => rfl)) (nomark _)))))
      (pss_one (ps_ret pe_bl))
      pss_nil)
      (pss_cons (ps_if (pt_cmpR (op_neA (hu64 hr)) (pe_fld (pv 4) rfl) (pe_op op_addA (pe_op op_addA (pe_ix ix_seq (pv 0) pe_int (fun _ _ => rfl)) pe_str) (pe_ix ix_seq (pv 0) pe_int (fun _ _ => rfl))) (nomark _))
      (pss_one (ps_ret pe_bl))
      pss_nil)
      (pss_cons (ps_if (PW.pt (pw_or (pt_cmpR (op_neA (hu64 hr)) (pe_fld (pv 4) rfl) (pe_callTy call_tuple_of rfl m_tuple (by decide +kernel) (pa_cons (pe_ix ix_seq (pv 0) pe_int (fun _ _ => rfl)) pa_nil)) (nomark _)) (pw_or1 (pt_cmpR (op_neA (hu64 hr)) (pe_fld (pv 4) rfl) (pe_callTy call_tuple_of rfl m_tuple (by decide +kernel) (pa_cons (pe_ix ix_seq (pv 0) pe_int (fun _ _ => rfl)) pa_nil)) (nomark _)))))
      (pss_one (ps_ret pe_bl))
      pss_nil)
      (pss_one (ps_ret (pe_and (pe_cmpR (op_eqA (hu64 hr)) (pe_fld (pv 4) rfl) (pe_callTy call_tuple_of rfl m_tuple (by decide +kernel) (pa_cons (pe_ix ix_seq (pv 0) pe_int (fun _ _ => rfl)) pa_nil)) (nomark _)) (pe_and (pe_cmpR (op_ownEq eq_Letter G_Letter_eq b_Letter_eq (hr.mono (by decide))) (pv 4) (pe_call G_law_letter (hr.mono (by decide)) rfl g_law_letter k_law_letter b_law_letter .nil pass0 (pa_cons (pv 0) pa_nil)) (nomark _)) (pe_one (pe_cmpR (op_ownNe eq_Letter G_Letter_eq b_Letter_eq (hr.mono (by decide))) (pv 4) (pe_fld (pv 4) rfl) (nomark _)))))))))))))))),
    (rs_seq (rs_par3 (efa_cons (ef_list (Pu.c (pu_op (Pu.c (pu_var 0)) (Pu.c pu_int) ix_t))) (efa_cons (ef_p (pu_call1 (Pu.c (pu_op (Pu.c (pu_var 0)) (Pu.c pu_int) ix_t)) list_t)) (efa_cons (ef_list (Pu.c (pu_op (Pu.c (pu_var 0)) (Pu.c pu_int) ix_t))) efa_nil))) rfl (by decide) (by decide) (by decide) (by decide) (by decide) (by decide))
      (rs_seq (rs_asgD (ef_makeKS (P := [none, none, none, none, none, none]) (l1 := [_, _, _]) (l2 := [_, _, _]) (fun I q hq => by simp at hq) (efa_cons (ef_p (pu_op (Pu.c (pu_var 0)) (Pu.c pu_int) ix_t)) (efa_cons (ef_p (pu_op (Pu.c (pu_var 0)) (Pu.c pu_int) ix_t)) (efa_cons (ef_p (pu_op (Pu.c (pu_var 0)) (Pu.c pu_int) ix_t)) (efa_bor 1 (efa_cons (ef_p (pu_call1 (Pu.c (pu_var 2)) tuple_t)) (efa_bor 3 efa_nil)))))) rfl rfl rfl (fun x vs zs h1 h2 => match vs, zs, h1, h2 with | [_, _, _], [_, _, _], _, _ => rfl)) (by decide))
      (rs_seq (rs_if (eft_p (put_or (put_test (pu_op (cu_var 1) (Pu.c (pu_op (Pu.c (pu_var 0)) (Pu.c pu_int) ix_t)) ne_t)) (put_or (put_test (pu_op (Pu.c (pu_var 2)) (Pu.c (pu_op (Pu.c (pu_var 0)) (Pu.c pu_int) ix_t)) ne_t)) (put_test (pu_op (cu_var 3) (Pu.c (pu_op (Pu.c (pu_var 0)) (Pu.c pu_int) ix_t)) ne_t)))))
      (rs_ret (ef_p pu_bl))
      rs_next)
      (rs_seq (rs_appV (ef_p pu_int))
      (rs_seq (rs_appV (ef_p pu_str))
      (rs_seq (rs_if (eft_p (put_or (put_test (pu_op (Pu.c (pu_fld cf_Letter rfl (pu_var 4))) (Pu.c (pu_op (Pu.c (pu_var 0)) (Pu.c pu_int) ix_t)) ne_t)) (put_b (pu_call2 (Pu.c (pu_fld cf_Letter rfl (pu_var 4))) (Pu.c pu_raw) isi2_t))))
      (rs_ret (ef_p pu_bl))
      rs_next)
      (rs_seq (rs_if (eft_p (put_or (put_test (pu_op (Pu.c (pu_fld cf_Letter rfl (pu_var 4))) (Pu.c (pu_op (Pu.c (pu_var 0)) (Pu.c pu_int) ix_t)) ne_t)) (put_test (pu_op (Pu.c (pu_fld cf_Letter rfl (pu_var 4))) (Pu.c (pu_op (Pu.c (pu_var 0)) (Pu.c pu_int) ix_t)) ne_t))))
      (rs_ret (ef_p pu_bl))
      rs_next)
      (rs_seq (rs_if (eft_p (put_test (pu_op (Pu.c (pu_fld cf_Letter rfl (pu_var 4))) (Pu.c (pu_op (Pu.c (pu_op (Pu.c (pu_op (Pu.c (pu_var 0)) (Pu.c pu_int) ix_t)) (Pu.c pu_str) add_t)) (Pu.c (pu_op (Pu.c (pu_var 0)) (Pu.c pu_int) ix_t)) add_t)) ne_t)))
      (rs_ret (ef_p pu_bl))
      rs_next)
      (rs_seq (rs_if (eft_p (put_or (put_test (pu_op (Pu.c (pu_fld cf_Letter rfl (pu_var 4))) (Pu.c (pu_call1 (Pu.c (pu_op (Pu.c (pu_var 0)) (Pu.c pu_int) ix_t)) tuple_t)) ne_t)) (put_test (pu_op (Pu.c (pu_fld cf_Letter rfl (pu_var 4))) (Pu.c (pu_call1 (Pu.c (pu_op (Pu.c (pu_var 0)) (Pu.c pu_int) ix_t)) tuple_t)) ne_t))))
      (rs_ret (ef_p pu_bl))
      rs_next)
      (rs_ret (ef_p (pu_and (pu_op (Pu.c (pu_fld cf_Letter rfl (pu_var 4))) (Pu.c (pu_call1 (Pu.c (pu_op (Pu.c (pu_var 0)) (Pu.c pu_int) ix_t)) tuple_t)) eq_t) (pu_and (pu_op (Pu.c (pu_var 4)) (Pu.c (pu_call (pa_cons_ (pu_var 0) pa_nil_))) ownEq_t) (pu_op (Pu.c (pu_var 4)) (Pu.c (pu_fld cf_Letter rfl (pu_var 4))) ownNe_t))))))))))))))⟩

abbrev s_law_bad : Stmt := topS 31
theorem sc_law_bad : FnScope ["_law_bag_here", "_law_field", "_law_fields_here", "_law_long_name", "_law_number_here", "_law_most", "_law_k"] ["_law_bag_here", "_law_field", "_law_fields_here"] (defScope s_law_bad) := ⟨rfl, rfl, rfl, by decide +kernel, rfl, by decide +kernel, by decide +kernel⟩

def b_law_bad (cl : Nat → Addr) : List T → Option O :=
  (sSeq (sAsgD 3 (eP (pC (.str "abcdefghi"))))
  (sSeq (sIf (eT (pTest (pOp oEq (pVar 1) (pC (.int 0)))))
  (sRet (eOp [none, none] oIx (aCons (eLst [none, none, none, none, none, none] (aCons (eP (pC (.int 0))) (aCons (eP (pOp oAdd (pOp oPow (pC (.int 10)) (pC (.int 30))) (pC (.int 1)))) (aCons (eOp [none, none] oSub (aCons (eP (pUn oNeg (pC (.int 1)))) (aCons (eCall (f_law_take cl) [some 0, none] (aBor 0 (aCons (eP (pC (.int 99))) aNil))) aNil))) (aCons (eP (pC (.bl true))) (aCons (eP (pC (.str "7"))) (aCons (eP (pC .non)) aNil))))))) (aCons (eCall (f_law_take cl) [some 0, none] (aBor 0 (aCons (eP (pC (.int 6))) aNil))) aNil))))
  sNext)
  (sSeq (sIf (eT (pTest (pOp oLt (pVar 1) (pC (.int 3)))))
  (sRet (eOp [none, none] oIx (aCons (eP (pLst (pCons (pC (.str "")) (pCons (pVar 3) (pCons (pC (.str "Ann")) (pCons (pC (.str "a b")) (pCons (pC (.str "an9")) (pCons (pC .non) (pCons (pC (.int 5)) (pCons (pLst (pCons (pC (.str "ann")) pNil)) pNil)))))))))) (aCons (eCall (f_law_take cl) [some 0, none] (aBor 0 (aCons (eP (pC (.int 8))) aNil))) aNil))))
  sNext)
  (sSeq (sIf (eT (pTest (pOp oEq (pVar 1) (pC (.int 3)))))
  (sSeq (sAsgD 4 (eP (pIf (pTest (pOp oIsi2 (pOp oIx (cVar 2) (pC (.int 0))) (pC (.raw (.ty "int"))))) (pOp oIx (cVar 2) (pC (.int 0))) (pC (.int 3)))))
  (sRet (eOp [none, none] oIx (aCons (eP (pLst (pCons (pLst (pCons (pVar 4) pNil)) (pCons (pLst (pCons (pC (.int 12)) (pCons (pC (.int 12)) pNil))) (pCons (pLst (pCons (pC (.int 4)) (pCons (pC (.int 5)) (pCons (pC (.int 4)) pNil)))) (pCons (pLst (pCons (pC (.int 0)) pNil)) (pCons (pLst (pCons (pC (.bl true)) pNil)) (pCons (pLst (pCons (pOp oAdd (pOp oPow (pC (.int 10)) (pC (.int 30))) (pC (.int 1))) pNil)) (pCons (pLst (pCons (pC (.str "3")) pNil)) (pCons (pC (.str "34")) (pCons (pC .non) (pCons (pC (.dic [] [])) (pCons (pC (.int 5)) (pCons (pLc [6] (iR1 (pC (.int 9))) (gN 6) bYes (pOp oAdd (pOp oMul (pC (.int 2)) (pOp oPow (pC (.int 10)) (pC (.int 9)))) (pVar 6))) pNil)))))))))))))) (aCons (eCall (f_law_take cl) [some 0, none] (aBor 0 (aCons (eP (pC (.int 12))) aNil))) aNil)))))
  sNext)
  (sSeq (sAsgD 5 (eP (pOp oIx (pLst (pCons (pC (.int 8)) (pCons (pC (.int 40)) pNil))) (pOp oSub (pVar 1) (pC (.int 4))))))
  (sRet (eOp [none, none] oIx (aCons (eP (pLst (pCons (pRep (pCons (pC (.str "ab")) pNil) (pOp oAdd (pVar 5) (pC (.int 1)))) (pCons (pLst (pCons (pC (.str "")) pNil)) (pCons (pLst (pCons (pC (.str "ok")) (pCons (pC (.str "No")) pNil))) (pCons (pLst (pCons (pC (.str "ok")) (pCons (pC (.int 3)) pNil))) (pCons (pC (.str "ab")) (pCons (pC .non) (pCons (pLst (pCons (pVar 3) pNil)) (pCons (pC (.dic [.inr "ab"] [.int 1])) (pCons (pC (.int 7)) pNil))))))))))) (aCons (eCall (f_law_take cl) [some 0, none] (aBor 0 (aCons (eP (pC (.int 9))) aNil))) aNil)))))))))
def f_law_bad (cl : Nat → Addr) : FN := fnF 3 7 [3, 4, 5] (b_law_bad cl)

theorem ok_law_bad {f : Addr} {fd : FuncData} (F : Fun K "_law_bad" "_law_bad" s_law_bad f fd) {f_law_take_ : Addr} {fd_law_take : FuncData} (G_law_take : FnOk P w K mg base CX0 1 f_law_take_ fd_law_take ["_law_bag_here", "_law_many"] (spF K (f_law_take cl))) (g_law_take : mg "_law_take" = some (.ref f_law_take_)) (k_law_take : PySem.W.keepIn K (.ref f_law_take_) = true) (b_law_take : Binds K fd_law_take ["_law_bag_here", "_law_many"] []) (m_int : mg "int" = none) (m_isinstance : mg "isinstance" = none) (m_range : mg "range" = none) : FnOk P w K mg base CX0 2 f fd ["_law_bag_here", "_law_field", "_law_fields_here"] (spF K (f_law_bad cl)) :=
  okF F sc_law_bad rfl rfl (by decide) fun cdv A outer s H E hr => ⟨_, (pss_cons (ps_set (i := 3) sc_law_bad.nd rfl (.inl rfl) pe_str)
      (pss_cons (ps_if (pt_cmpR (op_eqA (hu64 hr)) (pv 1) pe_int (nomark _))
      (pss_one (ps_ret (pe_ix ix_seq (pe_lst (pa_cons pe_int (pa_cons (pe_op op_addA (pe_op op_pow pe_int pe_int) pe_int) (pa_cons (pe_op op_sub (pe_un un_neg pe_int) (pe_call G_law_take (hr.mono (by decide)) rfl g_law_take k_law_take b_law_take .nil pass0 (pa_cons (pv 0) (pa_cons pe_int pa_nil)))) (pa_cons pe_bl (pa_cons pe_str (pa_cons pe_non pa_nil))))))) (pe_call G_law_take (hr.mono (by decide)) rfl g_law_take k_law_take b_law_take .nil pass0 (pa_cons (pv 0) (pa_cons pe_int pa_nil))) (fun _ _ => rfl))))
      pss_nil)
      (pss_cons (ps_if (pt_cmpR op_ltA (pv 1) pe_int (nomark _))
      (pss_one (ps_ret (pe_ix ix_seq (pe_lst (pa_cons pe_str (pa_cons (pv 3) (pa_cons pe_str (pa_cons pe_str (pa_cons pe_str (pa_cons pe_non (pa_cons pe_int (pa_cons (pe_lst (pa_cons pe_str pa_nil)) pa_nil))))))))) (pe_call G_law_take (hr.mono (by decide)) rfl g_law_take k_law_take b_law_take .nil pass0 (pa_cons (pv 0) (pa_cons pe_int pa_nil))) (fun _ _ => rfl))))
      pss_nil)
      (pss_cons (ps_if (pt_cmpR (op_eqA (hu64 hr)) (pv 1) pe_int (nomark _))
      (pss_cons (ps_set (i := 4) sc_law_bad.nd rfl (.inl rfl) (pe_ifExp (pt_val (pe_callB call_isi rfl m_isinstance (by decide +kernel) (pa_cons (pe_ix ix_seq (pv 2) pe_int (fun _ _ => rfl)) (pa_cons (pe_bltn (v := .ty "int") rfl m_int (by decide +kernel) rfl) pa_nil)))) (pe_ix ix_seq (pv 2) pe_int (fun _ _ => rfl)) pe_int))
      (pss_one (ps_ret (pe_ix ix_seq (pe_lst (pa_cons (pe_lst (pa_cons (pv 4) pa_nil)) (pa_cons (pe_lst (pa_cons pe_int (pa_cons pe_int pa_nil))) (pa_cons (pe_lst (pa_cons pe_int (pa_cons pe_int (pa_cons pe_int pa_nil)))) (pa_cons (pe_lst (pa_cons pe_int pa_nil)) (pa_cons (pe_lst (pa_cons pe_bl pa_nil)) (pa_cons (pe_lst (pa_cons (pe_op op_addA (pe_op op_pow pe_int pe_int) pe_int) pa_nil)) (pa_cons (pe_lst (pa_cons pe_str pa_nil)) (pa_cons pe_str (pa_cons pe_non (pa_cons pe_dnewK (pa_cons pe_int (pa_cons (pe_lc (own := [("_law_k", 6)])  rfl sc_law_bad.nd (pi_range1 rfl m_range (pa_cons pe_int pa_nil)) (blkOk_by (N := ["_law_bag_here", "_law_field", "_law_fields_here", "_law_long_name", "_law_number_here", "_law_most", "_law_k"]) (sc := defScope s_law_bad) (by decide +kernel)) (fun _ _ _ _ _ => (pg_name (i := 6) sc_law_bad.nd rfl (.inl rfl))) (fun _ _ _ _ _ => pts_nil) (fun _ _ _ _ _ => (pe_op (op_addK (K := K)) (pe_op op_mulW pe_int (pe_op op_pow pe_int pe_int)) (pv 6)))) pa_nil))))))))))))) (pe_call G_law_take (hr.mono (by decide)) rfl g_law_take k_law_take b_law_take .nil pass0 (pa_cons (pv 0) (pa_cons pe_int pa_nil))) (fun _ _ => rfl)))))
      pss_nil)
      (pss_cons (ps_set (i := 5) sc_law_bad.nd rfl (.inl rfl) (pe_ix ix_seq (pe_lst (pa_cons pe_int (pa_cons pe_int pa_nil))) (pe_op op_sub (pv 1) pe_int) (fun _ _ => rfl)))
      (pss_one (ps_ret (pe_ix ix_seq (pe_lst (pa_cons (pe_op op_rep (pe_lst (pa_cons pe_str pa_nil)) (pe_op op_addA (pv 5) pe_int)) (pa_cons (pe_lst (pa_cons pe_str pa_nil)) (pa_cons (pe_lst (pa_cons pe_str (pa_cons pe_str pa_nil))) (pa_cons (pe_lst (pa_cons pe_str (pa_cons pe_int pa_nil))) (pa_cons pe_str (pa_cons pe_non (pa_cons (pe_lst (pa_cons (pv 3) pa_nil)) (pa_cons (pe_disp (pps_cons pe_str pe_int pps_nil) rfl rfl (by decide) (by decide)) (pa_cons pe_int pa_nil)))))))))) (pe_call G_law_take (hr.mono (by decide)) rfl g_law_take k_law_take b_law_take .nil pass0 (pa_cons (pv 0) (pa_cons pe_int pa_nil))) (fun _ _ => rfl))))))))),
    (rs_seq (rs_asgD (ef_p pu_str) (by decide))
      (rs_seq (rs_if (eft_p (put_test (pu_op (Pu.c (pu_var 1)) (Pu.c pu_int) eq_t)))
      (rs_ret (ef_op (efa_cons (ef_lst (efa_cons (ef_p pu_int) (efa_cons (ef_p (pu_op (Pu.c (pu_op (Pu.c pu_int) (Pu.c pu_int) pow_t)) (Pu.c pu_int) add_t)) (efa_cons (ef_op (efa_cons (ef_p (pu_un (Pu.c pu_int) neg_t)) (efa_cons (ef_call (efa_bor 0 (efa_cons (ef_p pu_int) efa_nil))) efa_nil)) sub_t) (efa_cons (ef_p pu_bl) (efa_cons (ef_p pu_str) (efa_cons (ef_p pu_non) efa_nil))))))) (efa_cons (ef_call (efa_bor 0 (efa_cons (ef_p pu_int) efa_nil))) efa_nil)) ix_t))
      rs_next)
      (rs_seq (rs_if (eft_p (put_test (pu_op (Pu.c (pu_var 1)) (Pu.c pu_int) lt_t)))
      (rs_ret (ef_op (efa_cons (ef_p (pu_lst (pa_cons_ pu_str (pa_cons_ (pu_var 3) (pa_cons_ pu_str (pa_cons_ pu_str (pa_cons_ pu_str (pa_cons_ pu_non (pa_cons_ pu_int (pa_cons_ (pu_lst (pa_cons_ pu_str pa_nil_)) pa_nil_)))))))))) (efa_cons (ef_call (efa_bor 0 (efa_cons (ef_p pu_int) efa_nil))) efa_nil)) ix_t))
      rs_next)
      (rs_seq (rs_if (eft_p (put_test (pu_op (Pu.c (pu_var 1)) (Pu.c pu_int) eq_t)))
      (rs_seq (rs_asgD (ef_p (pu_if (put_b (pu_call2 (Pu.c (pu_op (cu_var 2) (Pu.c pu_int) ix_t)) (Pu.c pu_raw) isi2_t)) (pu_op (cu_var 2) (Pu.c pu_int) ix_t) pu_int)) (by decide))
      (rs_ret (ef_op (efa_cons (ef_p (pu_lst (pa_cons_ (pu_lst (pa_cons_ (pu_var 4) pa_nil_)) (pa_cons_ (pu_lst (pa_cons_ pu_int (pa_cons_ pu_int pa_nil_))) (pa_cons_ (pu_lst (pa_cons_ pu_int (pa_cons_ pu_int (pa_cons_ pu_int pa_nil_)))) (pa_cons_ (pu_lst (pa_cons_ pu_int pa_nil_)) (pa_cons_ (pu_lst (pa_cons_ pu_bl pa_nil_)) (pa_cons_ (pu_lst (pa_cons_ (pu_op (Pu.c (pu_op (Pu.c pu_int) (Pu.c pu_int) pow_t)) (Pu.c pu_int) add_t) pa_nil_)) (pa_cons_ (pu_lst (pa_cons_ pu_str pa_nil_)) (pa_cons_ pu_str (pa_cons_ pu_non (pa_cons_ pu_dnew (pa_cons_ pu_int (pa_cons_ (pu_lc (its_rng1 (fz := true) pu_int) (rg_n (by decide)) put_yes (pu_op (Pu.c (pu_op (Pu.c pu_int) (Pu.c (pu_op (Pu.c pu_int) (Pu.c pu_int) pow_t)) mul_t)) (Pu.c (pu_var 6)) add_t)) pa_nil_)))))))))))))) (efa_cons (ef_call (efa_bor 0 (efa_cons (ef_p pu_int) efa_nil))) efa_nil)) ix_t)))
      rs_next)
      (rs_seq (rs_asgD (ef_p (pu_op (Pu.c (pu_lst (pa_cons_ pu_int (pa_cons_ pu_int pa_nil_)))) (Pu.c (pu_op (Pu.c (pu_var 1)) (Pu.c pu_int) sub_t)) ix_t)) (by decide))
      (rs_ret (ef_op (efa_cons (ef_p (pu_lst (pa_cons_ (pu_rep (pa_cons_ pu_str pa_nil_) (pu_op (Pu.c (pu_var 5)) (Pu.c pu_int) add_t)) (pa_cons_ (pu_lst (pa_cons_ pu_str pa_nil_)) (pa_cons_ (pu_lst (pa_cons_ pu_str (pa_cons_ pu_str pa_nil_))) (pa_cons_ (pu_lst (pa_cons_ pu_str (pa_cons_ pu_int pa_nil_))) (pa_cons_ pu_str (pa_cons_ pu_non (pa_cons_ (pu_lst (pa_cons_ (pu_var 3) pa_nil_)) (pa_cons_ pu_disp1 (pa_cons_ pu_int pa_nil_))))))))))) (efa_cons (ef_call (efa_bor 0 (efa_cons (ef_p pu_int) efa_nil))) efa_nil)) ix_t)))))))⟩

abbrev s_law : Stmt := topS 36
theorem sc_law : FnScope ["_law_script", "_law_names_here", "_law_short", "_law_at", "_law_bag_here", "_law_fields_here", "_law_other", "_law_place", "_law_fresh", "_law_spoiled", "_law_wrong"] ["_law_script"] (defScope s_law) := ⟨rfl, rfl, rfl, by decide +kernel, rfl, by decide +kernel, by decide +kernel⟩

def b_law (cl : Nat → Addr) : List T → Option O :=
  (sSeq (sAsgD 1 (eP (pLst (pCons (pC (.str "number")) (pCons (pC (.str "person")) (pCons (pC (.str "house")) (pCons (pC (.str "answers")) (pCons (pC (.str "subject")) (pCons (pC (.str "words")) pNil)))))))))
  (sSeq (sAsgD 2 (eMake (cl 3) (f_Letter_init cl) [none, none, none, some (.tup []), some (.tup []), some (.tup [])] [none, none, none] (aCons (eP (pC (.int 5))) (aCons (eP (pC (.str "ann"))) (aCons (eP (pC (.str "oak"))) aNil)))))
  (sSeq (sIf (eOr (eT (pTest (pOp oNe (pFld (cl 3) ["number", "person", "house", "answers", "subject", "words", "sender"] 3 (pVar 2)) (pTup pNil)))) (eOr (eT (pTest (pOp oNe (pFld (cl 3) ["number", "person", "house", "answers", "subject", "words", "sender"] 4 (pVar 2)) (pTup pNil)))) (eOr (eT (pTest (pOp oNe (pFld (cl 3) ["number", "person", "house", "answers", "subject", "words", "sender"] 5 (pVar 2)) (pTup pNil)))) (eTest (eOp [none, none] (oOwnNe (cl 3) (f_Letter_eq cl)) (aCons (eP (pVar 2)) (aCons (eMake (cl 3) (f_Letter_init cl) [none, none, none, some (.tup []), some (.tup []), none] [none, none, none, none] (aCons (eP (pC (.int 5))) (aCons (eP (pC (.str "ann"))) (aCons (eP (pC (.str "oak"))) (aCons (eP (pLst pNil)) aNil))))) aNil)))))))
  (sRet (eP (pC (.bl false))))
  sNext)
  (sSeq (sFor (iP (iR1 (pOp oMax2 (pC (.int 1)) (pOp oMin2 (pC (.int 3)) (pUn oLen (pVar 0)))))) (gN 3)
  (sSeq (sAsg 4 (eCall (f_law_bag cl) [none, none] (aCons (eP (pVar 0)) (aCons (eP (pVar 3)) aNil))))
  (sSeq (sAsgD 5 (eCall (f_law_fields cl) [some 4] (aBor 4 aNil)))
  (sSeq (sIf (eT (bNot (pTest (pCall (f_law_is_made cl) (pCons (pVar 5) pNil)))))
  (sRet (eP (pC (.bl false))))
  sNext)
  (sSeq (sPar [6, 7] (aCons (eList (pVar 5)) (aCons (eD (eCall (f_law_take cl) [some 4, none] (aBor 4 (aCons (eP (pC (.int 6))) aNil)))) aNil)))
  (sSeq (sAsgD 8 (eCall (f_law_fields cl) [some 4] (aBor 4 aNil)))
  (sSeq (sIf (eT (bAnd (pTest (pOp oNe (pVar 7) (pC (.int 3)))) (pTest (pOp oNe (pVar 7) (pC (.int 0))))))
  (sSetI 6 (eP (pOp oIx (pVar 8) (pVar 7))) (pVar 7))
  sNext)
  (sSeq (sIf (eT (pTest (pOp oEq (pVar 7) (pC (.int 0)))))
  (sAsg 6 (eLst [none, none, none, none, none, none] (aCons (eP (pOp oAdd (pOp oMod (pUn oInt (pOp oIx (pVar 5) (pC (.int 0)))) (pOp oPow (pC (.int 10)) (pC (.int 30)))) (pC (.int 1)))) (aCons (eP (pOp oIx (pVar 5) (pC (.int 1)))) (aCons (eP (pOp oIx (pVar 5) (pC (.int 2)))) (aCons (eP (pLst pNil)) (aCons (eP (pOp oIx (pVar 5) (pC (.int 4)))) (aCons (eP (pOp oIx (pVar 5) (pC (.int 5)))) aNil))))))))
  sNext)
  (sSeq (sIf (eT (pTest (pOp oEq (pVar 7) (pC (.int 3)))))
  (sSetI 6 (eP (pUn oRev (pOp oIx (cVar 6) (pC (.int 3))))) (pC (.int 3)))
  sNext)
  (sSeq (sIf (eTest (eOp [none, none] oNe (aCons (eOp [none, none] (oOwnEq (cl 3) (f_Letter_eq cl)) (aCons (eP (pCall (f_law_letter cl) (pCons (pVar 5) pNil))) (aCons (eCall (f_law_letter cl) [some 6] (aBor 6 aNil)) aNil))) (aCons (eP (pOp oEq (pVar 5) (cVar 6))) aNil))))
  (sRet (eP (pC (.bl false))))
  sNext)
  (sSeq (sPar [9, 10] (aCons (eList (pVar 5)) (aCons (eD (eUn [none] oSortI (aCons (eLst [none, none] (aCons (eCall (f_law_take cl) [some 4, none] (aBor 4 (aCons (eP (pC (.int 6))) aNil))) (aCons (eCall (f_law_take cl) [some 4, none] (aBor 4 (aCons (eP (pC (.int 6))) aNil))) aNil))) aNil))) aNil)))
  (sSeq (sFor (iP (iAnyF (pVar 10))) (gN 7)
  (sSetI 9 (eCall (f_law_bad cl) [some 4, none, some 9] (aBor 4 (aCons (eP (pVar 7)) (aBor 9 aNil)))) (pVar 7)))
  (sSeq (sIf (eOr (eTest (eOp [none, none] oNe (aCons (eCall (f_law_refused cl) [some 9] (aBor 9 aNil)) (aCons (eP (pOp oIx (pVar 1) (pOp oIx (pVar 10) (pC (.int 0))))) aNil)))) (eNot (eTest (eCall (f_law_caught cl) [some 9] (aBor 9 aNil)))))
  (sRet (eP (pC (.bl false))))
  sNext)
  (sIf (eT (bOr (pTest (pOp oNotN (pCall (f_law_refused cl) (pCons (pVar 5) pNil)) (pC .non))) (bOr (bNot (pTest (pCall (f_law_is_made cl) (pCons (pVar 5) pNil)))) (bNot (pTest (pCall (f_law_are_told cl) (pCons (pVar 5) pNil)))))))
  (sRet (eP (pC (.bl false))))
  sNext))))))))))))))
  (sRet (eP (pC (.bl true))))))))
def f_law (cl : Nat → Addr) : FN := fnF 1 11 [1, 2, 3, 4, 5, 6, 7, 8, 9, 10] (b_law cl)

theorem ok_law {f : Addr} {fd : FuncData} (F : Fun K "law" "law" s_law f fd) {f_Letter_init_ : Addr} {fd_Letter_init : FuncData} {dv_Letter_answers : V} {dv_Letter_subject : V} {dv_Letter_words : V} {gv_Letter_3_ : List Value → List Value → List Value} {gv_Letter_3_words : List Value → List Value → List Value} {f_Letter_eq_ : Addr} {fd_Letter_eq : FuncData} {f_law_bag_ : Addr} {fd_law_bag : FuncData} {f_law_fields_ : Addr} {fd_law_fields : FuncData} {f_law_is_made_ : Addr} {fd_law_is_made : FuncData} {f_law_take_ : Addr} {fd_law_take : FuncData} {f_law_letter_ : Addr} {fd_law_letter : FuncData} {f_law_bad_ : Addr} {fd_law_bad : FuncData} {f_law_caught_ : Addr} {fd_law_caught : FuncData} {f_law_refused_ : Addr} {fd_law_refused : FuncData} {f_law_are_told_ : Addr} {fd_law_are_told : FuncData} (G_Letter_init : FnOk P w K mg base (CX P w) 4 f_Letter_init_ fd_Letter_init ["self", "number", "person", "house", "answers", "subject", "words"] (spF K (f_Letter_init cl))) (g_Letter : mg "Letter" = some (.ref (cl 3))) (dd_Letter_answers : ∀ I, Is K I dv_Letter_answers (.tup [])) (dd_Letter_subject : ∀ I, Is K I dv_Letter_subject (.tup [])) (dd_Letter_words : ∀ I, Is K I dv_Letter_words (.tup [])) (M_Letter : Mk K (cl 3) f_Letter_init_) (kb_Letter_3_ : KBn K fd_Letter_init ["self", "number", "person", "house", "answers", "subject", "words"] 4 [] gv_Letter_3_ (fun vs zs => vs ++ [dv_Letter_answers, dv_Letter_subject, dv_Letter_words])) (kb_Letter_3_words : KBn K fd_Letter_init ["self", "number", "person", "house", "answers", "subject", "words"] 4 ["words"] gv_Letter_3_words (fun vs zs => vs ++ ([dv_Letter_answers, dv_Letter_subject] ++ zs))) (G_Letter_eq : FnOk P w K mg base CX0 1 f_Letter_eq_ fd_Letter_eq ["self", "other"] (spF K (f_Letter_eq cl))) (b_Letter_eq : Binds K fd_Letter_eq ["self", "other"] []) (eq_Letter : EqCls K (cl 3) f_Letter_eq_) (cf_Letter : ClsF K (cl 3) ["number", "person", "house", "answers", "subject", "words", "sender"]) (G_law_bag : FnOk P w K mg base CX0 1 f_law_bag_ fd_law_bag ["_law_script", "_law_at"] (spF K (f_law_bag cl))) (g_law_bag : mg "_law_bag" = some (.ref f_law_bag_)) (k_law_bag : PySem.W.keepIn K (.ref f_law_bag_) = true) (b_law_bag : Binds K fd_law_bag ["_law_script", "_law_at"] []) (G_law_fields : FnOk P w K mg base CX0 4 f_law_fields_ fd_law_fields ["_law_bag_here"] (spF K (f_law_fields cl))) (g_law_fields : mg "_law_fields" = some (.ref f_law_fields_)) (k_law_fields : PySem.W.keepIn K (.ref f_law_fields_) = true) (b_law_fields : Binds K fd_law_fields ["_law_bag_here"] []) (G_law_is_made : FnOk P w K mg base CX0 7 f_law_is_made_ fd_law_is_made ["_law_fields_here"] (spF K (f_law_is_made cl))) (g_law_is_made : mg "_law_is_made" = some (.ref f_law_is_made_)) (k_law_is_made : PySem.W.keepIn K (.ref f_law_is_made_) = true) (b_law_is_made : Binds K fd_law_is_made ["_law_fields_here"] []) (G_law_take : FnOk P w K mg base CX0 1 f_law_take_ fd_law_take ["_law_bag_here", "_law_many"] (spF K (f_law_take cl))) (g_law_take : mg "_law_take" = some (.ref f_law_take_)) (k_law_take : PySem.W.keepIn K (.ref f_law_take_) = true) (b_law_take : Binds K fd_law_take ["_law_bag_here", "_law_many"] []) (G_law_letter : FnOk P w K mg base CX0 6 f_law_letter_ fd_law_letter ["_law_fields_here"] (spF K (f_law_letter cl))) (g_law_letter : mg "_law_letter" = some (.ref f_law_letter_)) (k_law_letter : PySem.W.keepIn K (.ref f_law_letter_) = true) (b_law_letter : Binds K fd_law_letter ["_law_fields_here"] []) (G_law_bad : FnOk P w K mg base CX0 2 f_law_bad_ fd_law_bad ["_law_bag_here", "_law_field", "_law_fields_here"] (spF K (f_law_bad cl))) (g_law_bad : mg "_law_bad" = some (.ref f_law_bad_)) (k_law_bad : PySem.W.keepIn K (.ref f_law_bad_) = true) (b_law_bad : Binds K fd_law_bad ["_law_bag_here", "_law_field", "_law_fields_here"] []) (G_law_caught : FnOk P w K mg base CX0 6 f_law_caught_ fd_law_caught ["_law_fields_here"] (spF K (f_law_caught cl))) (g_law_caught : mg "_law_caught" = some (.ref f_law_caught_)) (k_law_caught : PySem.W.keepIn K (.ref f_law_caught_) = true) (b_law_caught : Binds K fd_law_caught ["_law_fields_here"] []) (G_law_refused : FnOk P w K mg base CX0 6 f_law_refused_ fd_law_refused ["_law_fields_here"] (spF K (f_law_refused cl))) (g_law_refused : mg "_law_refused" = some (.ref f_law_refused_)) (k_law_refused : PySem.W.keepIn K (.ref f_law_refused_) = true) (b_law_refused : Binds K fd_law_refused ["_law_fields_here"] []) (G_law_are_told : FnOk P w K mg base CX0 2 f_law_are_told_ fd_law_are_told ["_law_fields_here"] (spF K (f_law_are_told cl))) (g_law_are_told : mg "_law_are_told" = some (.ref f_law_are_told_)) (k_law_are_told : PySem.W.keepIn K (.ref f_law_are_told_) = true) (b_law_are_told : Binds K fd_law_are_told ["_law_fields_here"] []) (m_int : mg "int" = none) (m_len : mg "len" = none) (m_list : mg "list" = none) (m_max : mg "max" = none) (m_min : mg "min" = none) (m_range : mg "range" = none) (m_sorted : mg "sorted" = none) : FnOk P w K mg base CX0 8 f fd ["_law_script"] (spF K (f_law cl)) :=
  okF F sc_law rfl rfl (by decide) fun cdv A outer s H E hr => ⟨_, (pss_cons (ps_set (i := 1) sc_law.nd rfl (.inl rfl) (pe_lst (pa_cons pe_str (pa_cons pe_str (pa_cons pe_str (pa_cons pe_str (pa_cons pe_str (pa_cons pe_str pa_nil))))))))
      (pss_cons (ps_set (i := 2) sc_law.nd rfl (.inl rfl) (pe_makeKS M_Letter G_Letter_init (hr.mono (by decide)) rfl g_Letter kb_Letter_3_ (passAt takes0) (pa_cons pe_int (pa_cons pe_str (pa_cons pe_str pa_nil))) pk_nil))
      (pss_cons (ps_if (PW.pt (pw_or (pt_cmpR (op_neA (hu64 hr)) (pe_fld (pv 2) rfl) (pe_tup pa_nil) (nomark _)) (pw_or (pt_cmpR (op_neA (hu64 hr)) (pe_fld (pv 2) rfl) (pe_tup pa_nil) (nomark _)) (pw_or (pt_cmpR (op_neA (hu64 hr)) (pe_fld (pv 2) rfl) (pe_tup pa_nil) (nomark _)) (pw_or1 (pt_cmpR (op_ownNe eq_Letter G_Letter_eq b_Letter_eq (hr.mono (by decide))) (pv 2) (pe_makeKS M_Letter G_Letter_init (hr.mono (by decide)) rfl g_Letter kb_Letter_3_words (passAt takes0) (pa_cons pe_int (pa_cons pe_str (pa_cons pe_str pa_nil))) (pk_cons (pe_lst pa_nil) pk_nil)) (nomark _)))))))
      (pss_one (ps_ret pe_bl))
      pss_nil)
      (pss_cons (ps_for PassesOwn.never rfl (pi_range1 rfl m_range (pa_cons (pe_callB (call_max2 rfl) rfl m_max (by decide +kernel) (pa_cons pe_int (pa_cons (pe_callB (call_min2 rfl) rfl m_min (by decide +kernel) (pa_cons pe_int (pa_cons (pe_callB call_lenA rfl m_len (by decide +kernel) (pa_cons (pv 0) pa_nil)) pa_nil))) pa_nil))) pa_nil)) (pg_name (i := 3) sc_law.nd rfl (.inl rfl))
      (pss_cons (ps_set (i := 4) sc_law.nd rfl (.inl rfl) (pe_call G_law_bag (hr.mono (by decide)) rfl g_law_bag k_law_bag b_law_bag .nil pass0 (pa_cons (pv 0) (pa_cons (pv 3) pa_nil))))
      (pss_cons (ps_set (i := 5) sc_law.nd rfl (.inl rfl) (pe_call G_law_fields (hr.mono (by decide)) rfl g_law_fields k_law_fields b_law_fields .nil pass0 (pa_cons (pv 4) pa_nil)))
      (pss_cons (ps_if (pt_not (pt_val (pe_call G_law_is_made (hr.mono (by decide)) rfl g_law_is_made k_law_is_made b_law_is_made .nil pass0 (pa_cons (pv 5) pa_nil))))
      (pss_one (ps_ret pe_bl))
      pss_nil)
      (pss_cons (ps_par (i := 6) (j := 7) rfl sc_law.nd rfl rfl (by decide) rfl rfl (pa_cons (pe_callTy call_list_of rfl m_list (by decide +kernel) (pa_cons (pv 5) pa_nil)) (pa_cons (pe_call G_law_take (hr.mono (by decide)) rfl g_law_take k_law_take b_law_take .nil pass0 (pa_cons (pv 4) (pa_cons pe_int pa_nil))) pa_nil)) rfl)
      (pss_cons (ps_set (i := 8) sc_law.nd rfl (.inl rfl) (pe_call G_law_fields (hr.mono (by decide)) rfl g_law_fields k_law_fields b_law_fields .nil pass0 (pa_cons (pv 4) pa_nil)))
      (pss_cons (ps_if (PW.pt (pw_and (pt_cmpR (op_neA (hu64 hr)) (pv 7) pe_int (nomark _)) (pw_and1 (pt_cmpR (op_neA (hu64 hr)) (pv 7) pe_int (nomark _)))))
      (pss_one (ps_asg (pe_ix ix_seq (pv 8) (pv 7) (fun _ _ => rfl)) (pg_sub (pv 6) (pv 7) set_list)))
      pss_nil)
      (pss_cons (ps_if (pt_cmpR (op_eqA (hu64 hr)) (pv 7) pe_int (nomark _))
      (pss_one (ps_set (i := 6) sc_law.nd rfl (.inl rfl) (pe_lst (pa_cons (pe_op op_addA (pe_op op_mod (pe_callTy call_int1 rfl m_int (by decide +kernel) (pa_cons (pe_ix ix_seq (pv 5) pe_int (fun _ _ => rfl)) pa_nil)) (pe_op op_pow pe_int pe_int)) pe_int) (pa_cons (pe_ix ix_seq (pv 5) pe_int (fun _ _ => rfl)) (pa_cons (pe_ix ix_seq (pv 5) pe_int (fun _ _ => rfl)) (pa_cons (pe_lst pa_nil) (pa_cons (pe_ix ix_seq (pv 5) pe_int (fun _ _ => rfl)) (pa_cons (pe_ix ix_seq (pv 5) pe_int (fun _ _ => rfl)) pa_nil)))))))))
      pss_nil)
      (pss_cons (ps_if (pt_cmpR (op_eqA (hu64 hr)) (pv 7) pe_int (nomark _))
      (pss_one (ps_asg (pe_revL (pe_ix ix_seq (pv 6) pe_int (fun _ _ => rfl))) (pg_sub (pv 6) pe_int set_list)))
      pss_nil)
      (pss_cons (ps_if (pt_cmpR (op_neA (hu64 hr)) (pe_cmpR (op_ownEq eq_Letter G_Letter_eq b_Letter_eq (hr.mono (by decide))) (pe_call G_law_letter (hr.mono (by decide)) rfl g_law_letter k_law_letter b_law_letter .nil pass0 (pa_cons (pv 5) pa_nil)) (pe_call G_law_letter (hr.mono (by decide)) rfl g_law_letter k_law_letter b_law_letter .nil pass0 (pa_cons (pv 6) pa_nil)) (nomark _)) (pe_cmpR (op_eqA (hu64 hr)) (pv 5) (pv 6) (nomark _)) (nomark _))
      (pss_one (ps_ret pe_bl))
      pss_nil)
      (pss_cons (ps_par (i := 9) (j := 10) rfl sc_law.nd rfl rfl (by decide) rfl rfl (pa_cons (pe_callTy call_list_of rfl m_list (by decide +kernel) (pa_cons (pv 5) pa_nil)) (pa_cons (pe_callB cr_sortedI rfl m_sorted (by decide +kernel) (pa_cons (pe_lst (pa_cons (pe_call G_law_take (hr.mono (by decide)) rfl g_law_take k_law_take b_law_take .nil pass0 (pa_cons (pv 4) (pa_cons pe_int pa_nil))) (pa_cons (pe_call G_law_take (hr.mono (by decide)) rfl g_law_take k_law_take b_law_take .nil pass0 (pa_cons (pv 4) (pa_cons pe_int pa_nil))) pa_nil))) pa_nil)) pa_nil)) rfl)
      (pss_cons (ps_for PassesOwn.never rfl (pi_any (pv 10)) (pg_name (i := 7) sc_law.nd rfl (.inl rfl))
      (pss_one (ps_asg (pe_call G_law_bad (hr.mono (by decide)) rfl g_law_bad k_law_bad b_law_bad .nil pass0 (pa_cons (pv 4) (pa_cons (pv 7) (pa_cons (pv 9) pa_nil)))) (pg_sub (pv 9) (pv 7) set_list))))
      (pss_cons (ps_if (PW.pt (pw_or (pt_cmpR (op_neA (hu64 hr)) (pe_call G_law_refused (hr.mono (by decide)) rfl g_law_refused k_law_refused b_law_refused .nil pass0 (pa_cons (pv 9) pa_nil)) (pe_ix ix_seq (pv 1) (pe_ix ix_seq (pv 10) pe_int (fun _ _ => rfl)) (fun _ _ => rfl)) (nomark _)) (pw_or1 (pt_not (pt_val (pe_call G_law_caught (hr.mono (by decide)) rfl g_law_caught k_law_caught b_law_caught .nil pass0 (pa_cons (pv 9) pa_nil)))))))
      (pss_one (ps_ret pe_bl))
      pss_nil)
      (pss_one (ps_if (PW.pt (pw_or (pt_cmpR op_notN (pe_call G_law_refused (hr.mono (by decide)) rfl g_law_refused k_law_refused b_law_refused .nil pass0 (pa_cons (pv 5) pa_nil)) pe_non (nomark _)) (pw_or (pt_not (pt_val (pe_call G_law_is_made (hr.mono (by decide)) rfl g_law_is_made k_law_is_made b_law_is_made .nil pass0 (pa_cons (pv 5) pa_nil)))) (pw_or1 (pt_not (pt_val (pe_call G_law_are_told (hr.mono (by decide)) rfl g_law_are_told k_law_are_told b_law_are_told .nil pass0 (pa_cons (pv 5) pa_nil))))))))
      (pss_one (ps_ret pe_bl))
      pss_nil)))))))))))))))
      (pss_one (ps_ret pe_bl)))))),
    (rs_seq (rs_asgD (ef_p (pu_lst (pa_cons_ pu_str (pa_cons_ pu_str (pa_cons_ pu_str (pa_cons_ pu_str (pa_cons_ pu_str (pa_cons_ pu_str pa_nil_)))))))) (by decide))
      (rs_seq (rs_asgD (ef_makeKS (P := [none, none, none, some (dv_Letter_answers, .tup []), some (dv_Letter_subject, .tup []), some (dv_Letter_words, .tup [])]) (l1 := [_, _, _]) (l2 := []) (fun I q hq => by simp at hq; rcases hq with rfl | rfl | rfl <;> first | exact dd_Letter_answers I | exact dd_Letter_subject I | exact dd_Letter_words I) (efa_cons (ef_p pu_int) (efa_cons (ef_p pu_str) (efa_cons (ef_p pu_str) efa_nil))) rfl rfl rfl (fun x vs zs h1 h2 => match vs, zs, h1, h2 with | [_, _, _], [], _, _ => rfl)) (by decide))
      (rs_seq (rs_if (eft_or (eft_p (put_test (pu_op (Pu.c (pu_fld cf_Letter rfl (pu_var 2))) (Pu.c (pu_tup pa_nil_)) ne_t))) (eft_or (eft_p (put_test (pu_op (Pu.c (pu_fld cf_Letter rfl (pu_var 2))) (Pu.c (pu_tup pa_nil_)) ne_t))) (eft_or (eft_p (put_test (pu_op (Pu.c (pu_fld cf_Letter rfl (pu_var 2))) (Pu.c (pu_tup pa_nil_)) ne_t))) (eft_test (ef_op (efa_cons (ef_p (pu_var 2)) (efa_cons (ef_makeKS (P := [none, none, none, some (dv_Letter_answers, .tup []), some (dv_Letter_subject, .tup []), none]) (l1 := [_, _, _]) (l2 := [_]) (fun I q hq => by simp at hq; rcases hq with rfl | rfl <;> first | exact dd_Letter_answers I | exact dd_Letter_subject I) (efa_cons (ef_p pu_int) (efa_cons (ef_p pu_str) (efa_cons (ef_p pu_str) (efa_cons (ef_p (pu_lst pa_nil_)) efa_nil)))) rfl rfl rfl (fun x vs zs h1 h2 => match vs, zs, h1, h2 with | [_, _, _], [_], _, _ => rfl)) efa_nil)) ownNe_t)))))
      (rs_ret (ef_p pu_bl))
      rs_next)
      (rs_seq (rs_for (ite_p (its_rng1 (fz := true) (pu_call2 (Pu.c pu_int) (Pu.c (pu_call2 (Pu.c pu_int) (Pu.c (pu_call1 (Pu.c (pu_var 0)) len_t)) min2_t)) max2_t))) (rg_n (by decide))
      (rs_seq (rs_asg (ef_call (efa_cons (ef_p (pu_var 0)) (efa_cons (ef_p (pu_var 3)) efa_nil))) (by decide))
      (rs_seq (rs_asgD (ef_call (efa_bor 4 efa_nil)) (by decide))
      (rs_seq (rs_if (eft_p (put_not (put_b (pu_call (pa_cons_ (pu_var 5) pa_nil_)))))
      (rs_ret (ef_p pu_bl))
      rs_next)
      (rs_seq (rs_par (efa_cons (ef_list (Pu.c (pu_var 5))) (efa_cons (ef_d (ef_call (efa_bor 4 (efa_cons (ef_p pu_int) efa_nil)))) efa_nil)) rfl (by decide) (by decide) (by decide))
      (rs_seq (rs_asgD (ef_call (efa_bor 4 efa_nil)) (by decide))
      (rs_seq (rs_if (eft_p (put_and (put_test (pu_op (Pu.c (pu_var 7)) (Pu.c pu_int) ne_t)) (put_test (pu_op (Pu.c (pu_var 7)) (Pu.c pu_int) ne_t))))
      (rs_setI (ef_p (pu_op (Pu.c (pu_var 8)) (Pu.c (pu_var 7)) ix_t)) (pu_var 7))
      rs_next)
      (rs_seq (rs_if (eft_p (put_test (pu_op (Pu.c (pu_var 7)) (Pu.c pu_int) eq_t)))
      (rs_asg (ef_lst (efa_cons (ef_p (pu_op (Pu.c (pu_op (Pu.c (pu_call1 (Pu.c (pu_op (Pu.c (pu_var 5)) (Pu.c pu_int) ix_t)) int_t)) (Pu.c (pu_op (Pu.c pu_int) (Pu.c pu_int) pow_t)) mod_t)) (Pu.c pu_int) add_t)) (efa_cons (ef_p (pu_op (Pu.c (pu_var 5)) (Pu.c pu_int) ix_t)) (efa_cons (ef_p (pu_op (Pu.c (pu_var 5)) (Pu.c pu_int) ix_t)) (efa_cons (ef_p (pu_lst pa_nil_)) (efa_cons (ef_p (pu_op (Pu.c (pu_var 5)) (Pu.c pu_int) ix_t)) (efa_cons (ef_p (pu_op (Pu.c (pu_var 5)) (Pu.c pu_int) ix_t)) efa_nil))))))) (by decide))
      rs_next)
      (rs_seq (rs_if (eft_p (put_test (pu_op (Pu.c (pu_var 7)) (Pu.c pu_int) eq_t)))
      (rs_setI (ef_p (pu_rev (Pu.c (pu_op (cu_var 6) (Pu.c pu_int) ix_t)))) pu_int)
      rs_next)
      (rs_seq (rs_if (eft_test (ef_op (efa_cons (ef_op (efa_cons (ef_p (pu_call (pa_cons_ (pu_var 5) pa_nil_))) (efa_cons (ef_call (efa_bor 6 efa_nil)) efa_nil)) ownEq_t) (efa_cons (ef_p (pu_op (Pu.c (pu_var 5)) (cu_var 6) eq_t)) efa_nil)) ne_t))
      (rs_ret (ef_p pu_bl))
      rs_next)
      (rs_seq (rs_par (efa_cons (ef_list (Pu.c (pu_var 5))) (efa_cons (ef_d (ef_call1 (efa_cons (ef_lst (efa_cons (ef_call (efa_bor 4 (efa_cons (ef_p pu_int) efa_nil))) (efa_cons (ef_call (efa_bor 4 (efa_cons (ef_p pu_int) efa_nil))) efa_nil))) efa_nil) sortI_t)) efa_nil)) rfl (by decide) (by decide) (by decide))
      (rs_seq (rs_for (ite_p (its_any (fz := true) (pu_var 10))) (rg_n (by decide))
      (rs_setI (ef_call (efa_bor 4 (efa_cons (ef_p (pu_var 7)) (efa_bor 9 efa_nil)))) (pu_var 7)))
      (rs_seq (rs_if (eft_or (eft_test (ef_op (efa_cons (ef_call (efa_bor 9 efa_nil)) (efa_cons (ef_p (pu_op (Pu.c (pu_var 1)) (Pu.c (pu_op (Pu.c (pu_var 10)) (Pu.c pu_int) ix_t)) ix_t)) efa_nil)) ne_t)) (eft_not (eft_b (ef_call (efa_bor 9 efa_nil)))))
      (rs_ret (ef_p pu_bl))
      rs_next)
      (rs_if (eft_p (put_or (put_test (pu_op (Pu.c (pu_call (pa_cons_ (pu_var 5) pa_nil_))) (Pu.c pu_non) notN_t)) (put_or (put_not (put_b (pu_call (pa_cons_ (pu_var 5) pa_nil_)))) (put_not (put_b (pu_call (pa_cons_ (pu_var 5) pa_nil_)))))))
      (rs_ret (ef_p pu_bl))
      rs_next))))))))))))))
      (rs_ret (ef_p pu_bl))))))⟩

end
end G00

namespace G00
open PySem PySem.Spec PyProof.Rows L2 FD
abbrev s_BadLetter_init : Stmt := methS 15 0
theorem all_mk {l : PySem.W.OpenLaw} {w : PySem.World} {K : PySem.W.Frag} {h : Heap} {mg : Str → Option Value} {fa C0 C1 C2 C3 f_law_bag_ f_law_take_ f_law_name_ f_law_names_ f_law_number_ f_law_answers_ f_law_fields_ f_is_name_ f_is_number_ f_are_names_ f_are_answers_ f_wrong_field_ kd_Letter_init f_Letter_init_ da_Letter_answers da_Letter_subject da_Letter_words f_Letter_eq_ f_law_letter_ f_law_caught_ f_law_refused_ f_law_are_told_ f_law_is_made_ f_law_bad_ f_law_ f_BadLetter_init_ cda_BadLetter_init cc_BadLetter_init : Addr} (X : K.In h) (G : h.Ns mainGlobals mg) (hfa : mg "law" = some (.ref fa))
    {od_law_bag an_law_bag : Option Addr} {sl_law_bag : Array (Option Value)} {oc_law_bag kV_law_bag dc_law_bag pm_law_bag cd_law_bag ct_law_bag : Value} {od_law_take an_law_take : Option Addr} {sl_law_take : Array (Option Value)} {oc_law_take kV_law_take dc_law_take pm_law_take cd_law_take ct_law_take : Value} {od_law_name an_law_name : Option Addr} {sl_law_name : Array (Option Value)} {oc_law_name kV_law_name dc_law_name pm_law_name cd_law_name ct_law_name : Value} {od_law_names an_law_names : Option Addr} {sl_law_names : Array (Option Value)} {oc_law_names kV_law_names dc_law_names pm_law_names cd_law_names ct_law_names : Value} {od_law_number an_law_number : Option Addr} {sl_law_number : Array (Option Value)} {oc_law_number kV_law_number dc_law_number pm_law_number cd_law_number ct_law_number : Value} {od_law_answers an_law_answers : Option Addr} {sl_law_answers : Array (Option Value)} {oc_law_answers kV_law_answers dc_law_answers pm_law_answers cd_law_answers ct_law_answers : Value} {od_law_fields an_law_fields : Option Addr} {sl_law_fields : Array (Option Value)} {oc_law_fields kV_law_fields dc_law_fields pm_law_fields cd_law_fields ct_law_fields : Value} {od_is_name an_is_name : Option Addr} {sl_is_name : Array (Option Value)} {oc_is_name kV_is_name dc_is_name pm_is_name cd_is_name ct_is_name : Value} {od_is_number an_is_number : Option Addr} {sl_is_number : Array (Option Value)} {oc_is_number kV_is_number dc_is_number pm_is_number cd_is_number ct_is_number : Value} {od_are_names an_are_names : Option Addr} {sl_are_names : Array (Option Value)} {oc_are_names kV_are_names dc_are_names pm_are_names cd_are_names ct_are_names : Value} {od_are_answers an_are_answers : Option Addr} {sl_are_answers : Array (Option Value)} {oc_are_answers kV_are_answers dc_are_answers pm_are_answers cd_are_answers ct_are_answers : Value} {od_wrong_field an_wrong_field : Option Addr} {sl_wrong_field : Array (Option Value)} {oc_wrong_field kV_wrong_field dc_wrong_field pm_wrong_field cd_wrong_field ct_wrong_field : Value} {od_Letter_init an_Letter_init : Option Addr} {sl_Letter_init : Array (Option Value)} {oc_Letter_init  dc_Letter_init pm_Letter_init cd_Letter_init ct_Letter_init : Value} {oy_Letter_answers : Option Addr} {os_Letter_answers : Array (Option Value)} {oz_Letter_answers : Nat} {oy_Letter_subject : Option Addr} {os_Letter_subject : Array (Option Value)} {oz_Letter_subject : Nat} {oy_Letter_words : Option Addr} {os_Letter_words : Array (Option Value)} {oz_Letter_words : Nat} {od_Letter_eq an_Letter_eq : Option Addr} {sl_Letter_eq : Array (Option Value)} {oc_Letter_eq kV_Letter_eq dc_Letter_eq pm_Letter_eq cd_Letter_eq ct_Letter_eq : Value} {od_law_letter an_law_letter : Option Addr} {sl_law_letter : Array (Option Value)} {oc_law_letter kV_law_letter dc_law_letter pm_law_letter cd_law_letter ct_law_letter : Value} {od_law_caught an_law_caught : Option Addr} {sl_law_caught : Array (Option Value)} {oc_law_caught kV_law_caught dc_law_caught pm_law_caught cd_law_caught ct_law_caught : Value} {od_law_refused an_law_refused : Option Addr} {sl_law_refused : Array (Option Value)} {oc_law_refused kV_law_refused dc_law_refused pm_law_refused cd_law_refused ct_law_refused : Value} {od_law_are_told an_law_are_told : Option Addr} {sl_law_are_told : Array (Option Value)} {oc_law_are_told kV_law_are_told dc_law_are_told pm_law_are_told cd_law_are_told ct_law_are_told : Value} {od_law_is_made an_law_is_made : Option Addr} {sl_law_is_made : Array (Option Value)} {oc_law_is_made kV_law_is_made dc_law_is_made pm_law_is_made cd_law_is_made ct_law_is_made : Value} {od_law_bad an_law_bad : Option Addr} {sl_law_bad : Array (Option Value)} {oc_law_bad kV_law_bad dc_law_bad pm_law_bad cd_law_bad ct_law_bad : Value} {od_law an_law : Option Addr} {sl_law : Array (Option Value)} {oc_law kV_law dc_law pm_law cd_law ct_law : Value} {od_BadLetter_init an_BadLetter_init oa_BadLetter_init ob_BadLetter_init : Option Addr} {sl_BadLetter_init sm_BadLetter_init sn_BadLetter_init : Array (Option Value)} {oc_BadLetter_init kV_BadLetter_init dc_BadLetter_init pm_BadLetter_init ct_BadLetter_init oe_BadLetter_init of_BadLetter_init : Value} {vs_BadLetter_init : Array Value} {fl_BadLetter_init : Str} {tf_BadLetter_init : Tok} {cd_BadLetter_init : ClassData} {cdb_BadLetter_init : ClassData} {nm_BadLetter_init qn_BadLetter_init : Str} {nn_BadLetter_init : Addr} {bs_BadLetter_init bm_BadLetter_init su_BadLetter_init : List Value} {sx_BadLetter_init : List Str} {ab_BadLetter_init : Bool} {cx_BadLetter_init : Option Bool} {dd_BadLetter_init : Option Addr} {k0_BadLetter_init k1_BadLetter_init k2_BadLetter_init k3_BadLetter_init k5_BadLetter_init : Option Value} {t_LONGEST_NAME : Tok} {t_GREATEST_NUMBER : Tok} {t_MOST_ANSWERS : Tok} {t_MOST_SUBJECT : Tok} {t_MOST_WORDS : Tok}
    (aC_MailError : PySem.W.nsIn K mainGlobals "MailError" = some (some (.ref C0)))
    (aC_Clash : PySem.W.nsIn K mainGlobals "Clash" = some (some (.ref C1)))
    (aC_BadLetter : PySem.W.nsIn K mainGlobals "BadLetter" = some (some (.ref C2)))
    (aC_Letter : PySem.W.nsIn K mainGlobals "Letter" = some (some (.ref C3)))
    (a_law_bag : PySem.W.nsIn K mainGlobals "_law_bag" = some (some (.ref f_law_bag_)))
    (l_law_bag : K.lookup f_law_bag_ = some ⟨oc_law_bag, od_law_bag, .func (PySem.W.fnOf "_law_bag" "_law_bag" (defArgs s_law_bag) (defBody s_law_bag) (defScope s_law_bag) .none kV_law_bag dc_law_bag pm_law_bag an_law_bag cd_law_bag ct_law_bag), sl_law_bag⟩)
    (cd_in_law_bag : PySem.W.codeIn K cd_law_bag "_law_bag" = true)
    (kp_law_bag : PySem.W.keepIn K (.ref f_law_bag_) = true)
    (a_law_take : PySem.W.nsIn K mainGlobals "_law_take" = some (some (.ref f_law_take_)))
    (l_law_take : K.lookup f_law_take_ = some ⟨oc_law_take, od_law_take, .func (PySem.W.fnOf "_law_take" "_law_take" (defArgs s_law_take) (defBody s_law_take) (defScope s_law_take) .none kV_law_take dc_law_take pm_law_take an_law_take cd_law_take ct_law_take), sl_law_take⟩)
    (cd_in_law_take : PySem.W.codeIn K cd_law_take "_law_take" = true)
    (kp_law_take : PySem.W.keepIn K (.ref f_law_take_) = true)
    (a_law_name : PySem.W.nsIn K mainGlobals "_law_name" = some (some (.ref f_law_name_)))
    (l_law_name : K.lookup f_law_name_ = some ⟨oc_law_name, od_law_name, .func (PySem.W.fnOf "_law_name" "_law_name" (defArgs s_law_name) (defBody s_law_name) (defScope s_law_name) .none kV_law_name dc_law_name pm_law_name an_law_name cd_law_name ct_law_name), sl_law_name⟩)
    (cd_in_law_name : PySem.W.codeIn K cd_law_name "_law_name" = true)
    (kp_law_name : PySem.W.keepIn K (.ref f_law_name_) = true)
    (a_law_names : PySem.W.nsIn K mainGlobals "_law_names" = some (some (.ref f_law_names_)))
    (l_law_names : K.lookup f_law_names_ = some ⟨oc_law_names, od_law_names, .func (PySem.W.fnOf "_law_names" "_law_names" (defArgs s_law_names) (defBody s_law_names) (defScope s_law_names) .none kV_law_names dc_law_names pm_law_names an_law_names cd_law_names ct_law_names), sl_law_names⟩)
    (cd_in_law_names : PySem.W.codeIn K cd_law_names "_law_names" = true)
    (kp_law_names : PySem.W.keepIn K (.ref f_law_names_) = true)
    (a_law_number : PySem.W.nsIn K mainGlobals "_law_number" = some (some (.ref f_law_number_)))
    (l_law_number : K.lookup f_law_number_ = some ⟨oc_law_number, od_law_number, .func (PySem.W.fnOf "_law_number" "_law_number" (defArgs s_law_number) (defBody s_law_number) (defScope s_law_number) .none kV_law_number dc_law_number pm_law_number an_law_number cd_law_number ct_law_number), sl_law_number⟩)
    (cd_in_law_number : PySem.W.codeIn K cd_law_number "_law_number" = true)
    (kp_law_number : PySem.W.keepIn K (.ref f_law_number_) = true)
    (a_law_answers : PySem.W.nsIn K mainGlobals "_law_answers" = some (some (.ref f_law_answers_)))
    (l_law_answers : K.lookup f_law_answers_ = some ⟨oc_law_answers, od_law_answers, .func (PySem.W.fnOf "_law_answers" "_law_answers" (defArgs s_law_answers) (defBody s_law_answers) (defScope s_law_answers) .none kV_law_answers dc_law_answers pm_law_answers an_law_answers cd_law_answers ct_law_answers), sl_law_answers⟩)
    (cd_in_law_answers : PySem.W.codeIn K cd_law_answers "_law_answers" = true)
    (kp_law_answers : PySem.W.keepIn K (.ref f_law_answers_) = true)
    (a_law_fields : PySem.W.nsIn K mainGlobals "_law_fields" = some (some (.ref f_law_fields_)))
    (l_law_fields : K.lookup f_law_fields_ = some ⟨oc_law_fields, od_law_fields, .func (PySem.W.fnOf "_law_fields" "_law_fields" (defArgs s_law_fields) (defBody s_law_fields) (defScope s_law_fields) .none kV_law_fields dc_law_fields pm_law_fields an_law_fields cd_law_fields ct_law_fields), sl_law_fields⟩)
    (cd_in_law_fields : PySem.W.codeIn K cd_law_fields "_law_fields" = true)
    (kp_law_fields : PySem.W.keepIn K (.ref f_law_fields_) = true)
    (a_is_name : PySem.W.nsIn K mainGlobals "is_name" = some (some (.ref f_is_name_)))
    (l_is_name : K.lookup f_is_name_ = some ⟨oc_is_name, od_is_name, .func (PySem.W.fnOf "is_name" "is_name" (defArgs s_is_name) (defBody s_is_name) (defScope s_is_name) .none kV_is_name dc_is_name pm_is_name an_is_name cd_is_name ct_is_name), sl_is_name⟩)
    (cd_in_is_name : PySem.W.codeIn K cd_is_name "is_name" = true)
    (kp_is_name : PySem.W.keepIn K (.ref f_is_name_) = true)
    (a_is_number : PySem.W.nsIn K mainGlobals "is_number" = some (some (.ref f_is_number_)))
    (l_is_number : K.lookup f_is_number_ = some ⟨oc_is_number, od_is_number, .func (PySem.W.fnOf "is_number" "is_number" (defArgs s_is_number) (defBody s_is_number) (defScope s_is_number) .none kV_is_number dc_is_number pm_is_number an_is_number cd_is_number ct_is_number), sl_is_number⟩)
    (cd_in_is_number : PySem.W.codeIn K cd_is_number "is_number" = true)
    (kp_is_number : PySem.W.keepIn K (.ref f_is_number_) = true)
    (a_are_names : PySem.W.nsIn K mainGlobals "are_names" = some (some (.ref f_are_names_)))
    (l_are_names : K.lookup f_are_names_ = some ⟨oc_are_names, od_are_names, .func (PySem.W.fnOf "are_names" "are_names" (defArgs s_are_names) (defBody s_are_names) (defScope s_are_names) .none kV_are_names dc_are_names pm_are_names an_are_names cd_are_names ct_are_names), sl_are_names⟩)
    (cd_in_are_names : PySem.W.codeIn K cd_are_names "are_names" = true)
    (kp_are_names : PySem.W.keepIn K (.ref f_are_names_) = true)
    (a_are_answers : PySem.W.nsIn K mainGlobals "are_answers" = some (some (.ref f_are_answers_)))
    (l_are_answers : K.lookup f_are_answers_ = some ⟨oc_are_answers, od_are_answers, .func (PySem.W.fnOf "are_answers" "are_answers" (defArgs s_are_answers) (defBody s_are_answers) (defScope s_are_answers) .none kV_are_answers dc_are_answers pm_are_answers an_are_answers cd_are_answers ct_are_answers), sl_are_answers⟩)
    (cd_in_are_answers : PySem.W.codeIn K cd_are_answers "are_answers" = true)
    (kp_are_answers : PySem.W.keepIn K (.ref f_are_answers_) = true)
    (a_wrong_field : PySem.W.nsIn K mainGlobals "wrong_field" = some (some (.ref f_wrong_field_)))
    (l_wrong_field : K.lookup f_wrong_field_ = some ⟨oc_wrong_field, od_wrong_field, .func (PySem.W.fnOf "wrong_field" "wrong_field" (defArgs s_wrong_field) (defBody s_wrong_field) (defScope s_wrong_field) .none kV_wrong_field dc_wrong_field pm_wrong_field an_wrong_field cd_wrong_field ct_wrong_field), sl_wrong_field⟩)
    (cd_in_wrong_field : PySem.W.codeIn K cd_wrong_field "wrong_field" = true)
    (kp_wrong_field : PySem.W.keepIn K (.ref f_wrong_field_) = true)
    (a_Letter_init : PySem.W.findIn K (.ref C3) "__init__" = some (some (.ref f_Letter_init_)))
    (i_Letter_init : PySem.W.isFn K (.ref f_Letter_init_) = true)
    (l_Letter_init : K.lookup f_Letter_init_ = some ⟨oc_Letter_init, od_Letter_init, .func (PySem.W.fnOf "__init__" "Letter.__init__" (defArgs s_Letter_init) (defBody s_Letter_init) (defScope s_Letter_init) .none (.ref kd_Letter_init) dc_Letter_init pm_Letter_init an_Letter_init cd_Letter_init ct_Letter_init), sl_Letter_init⟩)
    (cd_in_Letter_init : PySem.W.codeIn K cd_Letter_init "Letter.__init__" = true)
    (kp_Letter_init : PySem.W.keepIn K (.ref f_Letter_init_) = true)
    (ns_Letter_answers : PySem.W.nsIn K kd_Letter_init "answers" = some (some (.ref da_Letter_answers)))
    (tp_Letter_answers : K.lookup da_Letter_answers = some ⟨.type "tuple", oy_Letter_answers, .seq #[] oz_Letter_answers, os_Letter_answers⟩)
    (ns_Letter_subject : PySem.W.nsIn K kd_Letter_init "subject" = some (some (.ref da_Letter_subject)))
    (tp_Letter_subject : K.lookup da_Letter_subject = some ⟨.type "tuple", oy_Letter_subject, .seq #[] oz_Letter_subject, os_Letter_subject⟩)
    (ns_Letter_words : PySem.W.nsIn K kd_Letter_init "words" = some (some (.ref da_Letter_words)))
    (tp_Letter_words : K.lookup da_Letter_words = some ⟨.type "tuple", oy_Letter_words, .seq #[] oz_Letter_words, os_Letter_words⟩)
    (a_Letter_eq : PySem.W.findIn K (.ref C3) "__eq__" = some (some (.ref f_Letter_eq_)))
    (i_Letter_eq : PySem.W.isFn K (.ref f_Letter_eq_) = true)
    (l_Letter_eq : K.lookup f_Letter_eq_ = some ⟨oc_Letter_eq, od_Letter_eq, .func (PySem.W.fnOf "__eq__" "Letter.__eq__" (defArgs s_Letter_eq) (defBody s_Letter_eq) (defScope s_Letter_eq) .none kV_Letter_eq dc_Letter_eq pm_Letter_eq an_Letter_eq cd_Letter_eq ct_Letter_eq), sl_Letter_eq⟩)
    (cd_in_Letter_eq : PySem.W.codeIn K cd_Letter_eq "Letter.__eq__" = true)
    (kp_Letter_eq : PySem.W.keepIn K (.ref f_Letter_eq_) = true)
    (a_law_letter : PySem.W.nsIn K mainGlobals "_law_letter" = some (some (.ref f_law_letter_)))
    (l_law_letter : K.lookup f_law_letter_ = some ⟨oc_law_letter, od_law_letter, .func (PySem.W.fnOf "_law_letter" "_law_letter" (defArgs s_law_letter) (defBody s_law_letter) (defScope s_law_letter) .none kV_law_letter dc_law_letter pm_law_letter an_law_letter cd_law_letter ct_law_letter), sl_law_letter⟩)
    (cd_in_law_letter : PySem.W.codeIn K cd_law_letter "_law_letter" = true)
    (kp_law_letter : PySem.W.keepIn K (.ref f_law_letter_) = true)
    (a_law_caught : PySem.W.nsIn K mainGlobals "_law_caught" = some (some (.ref f_law_caught_)))
    (l_law_caught : K.lookup f_law_caught_ = some ⟨oc_law_caught, od_law_caught, .func (PySem.W.fnOf "_law_caught" "_law_caught" (defArgs s_law_caught) (defBody s_law_caught) (defScope s_law_caught) .none kV_law_caught dc_law_caught pm_law_caught an_law_caught cd_law_caught ct_law_caught), sl_law_caught⟩)
    (cd_in_law_caught : PySem.W.codeIn K cd_law_caught "_law_caught" = true)
    (kp_law_caught : PySem.W.keepIn K (.ref f_law_caught_) = true)
    (a_law_refused : PySem.W.nsIn K mainGlobals "_law_refused" = some (some (.ref f_law_refused_)))
    (l_law_refused : K.lookup f_law_refused_ = some ⟨oc_law_refused, od_law_refused, .func (PySem.W.fnOf "_law_refused" "_law_refused" (defArgs s_law_refused) (defBody s_law_refused) (defScope s_law_refused) .none kV_law_refused dc_law_refused pm_law_refused an_law_refused cd_law_refused ct_law_refused), sl_law_refused⟩)
    (cd_in_law_refused : PySem.W.codeIn K cd_law_refused "_law_refused" = true)
    (kp_law_refused : PySem.W.keepIn K (.ref f_law_refused_) = true)
    (a_law_are_told : PySem.W.nsIn K mainGlobals "_law_are_told" = some (some (.ref f_law_are_told_)))
    (l_law_are_told : K.lookup f_law_are_told_ = some ⟨oc_law_are_told, od_law_are_told, .func (PySem.W.fnOf "_law_are_told" "_law_are_told" (defArgs s_law_are_told) (defBody s_law_are_told) (defScope s_law_are_told) .none kV_law_are_told dc_law_are_told pm_law_are_told an_law_are_told cd_law_are_told ct_law_are_told), sl_law_are_told⟩)
    (cd_in_law_are_told : PySem.W.codeIn K cd_law_are_told "_law_are_told" = true)
    (kp_law_are_told : PySem.W.keepIn K (.ref f_law_are_told_) = true)
    (a_law_is_made : PySem.W.nsIn K mainGlobals "_law_is_made" = some (some (.ref f_law_is_made_)))
    (l_law_is_made : K.lookup f_law_is_made_ = some ⟨oc_law_is_made, od_law_is_made, .func (PySem.W.fnOf "_law_is_made" "_law_is_made" (defArgs s_law_is_made) (defBody s_law_is_made) (defScope s_law_is_made) .none kV_law_is_made dc_law_is_made pm_law_is_made an_law_is_made cd_law_is_made ct_law_is_made), sl_law_is_made⟩)
    (cd_in_law_is_made : PySem.W.codeIn K cd_law_is_made "_law_is_made" = true)
    (kp_law_is_made : PySem.W.keepIn K (.ref f_law_is_made_) = true)
    (a_law_bad : PySem.W.nsIn K mainGlobals "_law_bad" = some (some (.ref f_law_bad_)))
    (l_law_bad : K.lookup f_law_bad_ = some ⟨oc_law_bad, od_law_bad, .func (PySem.W.fnOf "_law_bad" "_law_bad" (defArgs s_law_bad) (defBody s_law_bad) (defScope s_law_bad) .none kV_law_bad dc_law_bad pm_law_bad an_law_bad cd_law_bad ct_law_bad), sl_law_bad⟩)
    (cd_in_law_bad : PySem.W.codeIn K cd_law_bad "_law_bad" = true)
    (kp_law_bad : PySem.W.keepIn K (.ref f_law_bad_) = true)
    (a_law : PySem.W.nsIn K mainGlobals "law" = some (some (.ref f_law_)))
    (l_law : K.lookup f_law_ = some ⟨oc_law, od_law, .func (PySem.W.fnOf "law" "law" (defArgs s_law) (defBody s_law) (defScope s_law) .none kV_law dc_law pm_law an_law cd_law ct_law), sl_law⟩)
    (cd_in_law : PySem.W.codeIn K cd_law "law" = true)
    (kp_law : PySem.W.keepIn K (.ref f_law_) = true)
    (a_BadLetter_init : PySem.W.findIn K (.ref C2) "__init__" = some (some (.ref f_BadLetter_init_)))
    (l_BadLetter_init : K.lookup f_BadLetter_init_ = some ⟨oc_BadLetter_init, od_BadLetter_init, .func (PySem.W.ksFn "__init__" "BadLetter.__init__" (defArgs s_BadLetter_init) (defBody s_BadLetter_init) (defScope s_BadLetter_init) .none kV_BadLetter_init dc_BadLetter_init pm_BadLetter_init an_BadLetter_init (.ref cda_BadLetter_init) ct_BadLetter_init cc_BadLetter_init), sl_BadLetter_init⟩)
    (cd_in_BadLetter_init : PySem.W.codeIn K (.ref cda_BadLetter_init) "BadLetter.__init__" = true)
    (lc_BadLetter_init : K.lookup cda_BadLetter_init = some ⟨oe_BadLetter_init, oa_BadLetter_init, .fields vs_BadLetter_init, sm_BadLetter_init⟩)
    (lf_BadLetter_init : vs_BadLetter_init[2]? = some (.str fl_BadLetter_init tf_BadLetter_init))
    (lm_BadLetter_init : (l.prog.main.file == fl_BadLetter_init) = true)
    (lx_BadLetter_init : K.lookup cc_BadLetter_init = some ⟨of_BadLetter_init, ob_BadLetter_init, .cell (some (.ref C2)), sn_BadLetter_init⟩)
    (lk_BadLetter_init : PySem.W.clsIn K C2 = some cd_BadLetter_init)
    (lb_BadLetter_init : PySem.W.clsIn K C0 = some cdb_BadLetter_init)
    (mr_BadLetter_init : cd_BadLetter_init.mro = .ref C2 :: cdb_BadLetter_init.mro)
    (fb_BadLetter_init : PySem.W.findIn K (.ref C0) "__init__" = some (some (.builtin "ValueError.__init__")))
    (sD_BadLetter_init : PySem.W.subIn K (.ref C2) (.ref C2) = some true)
    (sV_BadLetter_init : PySem.W.subIn K (.ref C2) (.type "ValueError") = some true)
    (tf_BadLetter_init : PySem.W.typeIn K (.ref f_BadLetter_init_) = some (.type "function"))
    (ex_BadLetter_init : K.lookup C2 = some (excClassObj nm_BadLetter_init qn_BadLetter_init C2 nn_BadLetter_init bs_BadLetter_init bm_BadLetter_init true sx_BadLetter_init su_BadLetter_init ab_BadLetter_init cx_BadLetter_init dd_BadLetter_init k0_BadLetter_init k1_BadLetter_init k2_BadLetter_init k3_BadLetter_init k5_BadLetter_init "ValueError.__new__"))
    (rv_BadLetter_init : HandSPX.refsVE bm_BadLetter_init = true)
    (es_BadLetter_init : PySem.W.findIn K (.ref C2) "__setattr__" = some (some (.builtin "object.__setattr__")))
    (eb_BadLetter_init : PySem.W.subIn K (.ref C2) (.type "BaseException") = some true)
    (et_BadLetter_init : PySem.W.typeIn K (.ref C2) = some (.type "type"))
    (ek_BadLetter_init : PySem.W.keepIn K (.ref C2) = true)
    (ef_BadLetter_init_field : PySem.W.findIn K (.ref C2) "field" = some none)
    (stat : PySem.W.nsIn K cStatics "thirdparty.any" = some none)
    (smain : (List.lookup ("super" : Str) l.prog.main.scope.names).isSome = false)
    (z_super : PySem.W.nsIn K mainGlobals "super" = some none)
    (pg_Letter : PySem.W.plainGet K C3 Str.empty = true)
    (hd_Letter : PySem.W.hasDictIn K C3 = true)
    (po_Letter : PySem.W.plainOver K C3 = true)
    (sa_Letter : PySem.W.findIn K (.ref C3) "__setattr__" = some (some (.builtin "object.__setattr__")))
    (nf_Letter_number : PySem.W.findIn K (.ref C3) "number" = some none)
    (nf_Letter_person : PySem.W.findIn K (.ref C3) "person" = some none)
    (nf_Letter_house : PySem.W.findIn K (.ref C3) "house" = some none)
    (nf_Letter_answers : PySem.W.findIn K (.ref C3) "answers" = some none)
    (nf_Letter_subject : PySem.W.findIn K (.ref C3) "subject" = some none)
    (nf_Letter_words : PySem.W.findIn K (.ref C3) "words" = some none)
    (nf_Letter_sender : PySem.W.findIn K (.ref C3) "sender" = some none)
    (mk_Letter : PySem.W.makesIn K C3 = true)
    (kc_Letter : PySem.W.keepIn K (.ref C3) = true)
    (ca_Letter : PySem.W.findIn K (.ref C3) "__class__" = some (some (.builtin "object.__class__")))
    (ct_Letter : PySem.W.takesIn K (.builtin "object.__class__") = some true)
    (cm_Letter : PySem.W.mroIn K C3 (.type "object") = some true)
    (ic_Letter : PySem.W.isClsIn K C3 = true)
    (ty_Letter : PySem.W.typeIn K (.ref C3) = some (.type "type"))
    (cn_Letter : PySem.W.specialIn K (.builtin "object.__class__") "__get__" = some (some (.builtin "getset_descriptor.__get__")))
    (ne_Letter : PySem.W.findIn K (.ref C3) "__ne__" = some (some (.builtin "object.__ne__")))
    (ob_Letter : PySem.W.subIn K (.ref C3) (.type "object") = some true)
    (z_abs : PySem.W.nsIn K mainGlobals "abs" = some none)
    (z_enumerate : PySem.W.nsIn K mainGlobals "enumerate" = some none)
    (z_int : PySem.W.nsIn K mainGlobals "int" = some none)
    (z_len : PySem.W.nsIn K mainGlobals "len" = some none)
    (z_range : PySem.W.nsIn K mainGlobals "range" = some none)
    (z_all : PySem.W.nsIn K mainGlobals "all" = some none)
    (z_isinstance : PySem.W.nsIn K mainGlobals "isinstance" = some none)
    (z_str : PySem.W.nsIn K mainGlobals "str" = some none)
    (v_LONGEST_NAME : PySem.W.nsIn K mainGlobals "LONGEST_NAME" = some (some (.int 8 t_LONGEST_NAME)))
    (z_bool : PySem.W.nsIn K mainGlobals "bool" = some none)
    (v_GREATEST_NUMBER : PySem.W.nsIn K mainGlobals "GREATEST_NUMBER" = some (some (.int 1000000000000000000000000000000 t_GREATEST_NUMBER)))
    (z_list : PySem.W.nsIn K mainGlobals "list" = some none)
    (z_tuple : PySem.W.nsIn K mainGlobals "tuple" = some none)
    (z_set : PySem.W.nsIn K mainGlobals "set" = some none)
    (v_MOST_ANSWERS : PySem.W.nsIn K mainGlobals "MOST_ANSWERS" = some (some (.int 8 t_MOST_ANSWERS)))
    (v_MOST_SUBJECT : PySem.W.nsIn K mainGlobals "MOST_SUBJECT" = some (some (.int 8 t_MOST_SUBJECT)))
    (v_MOST_WORDS : PySem.W.nsIn K mainGlobals "MOST_WORDS" = some (some (.int 40 t_MOST_WORDS)))
    (ys_xm_MailError_MailError : PySem.W.subIn K (.ref C0) (.ref C0) = some true)
    (yb_MailError : PySem.W.subIn K (.ref C0) (.type "BaseException") = some true)
    (yh_MailError : PySem.W.hasDictIn K C0 = true)
    (yt_MailError : PySem.W.typeIn K (.ref C0) = some (.type "type"))
    (ys_xm_Clash_MailError : PySem.W.subIn K (.ref C1) (.ref C0) = some true)
    (ys_xm_BadLetter_MailError : PySem.W.subIn K (.ref C2) (.ref C0) = some true)
    (ys_xm_MailError_BadLetter : PySem.W.subIn K (.ref C0) (.ref C2) = some false)
    (yb_BadLetter : PySem.W.subIn K (.ref C2) (.type "BaseException") = some true)
    (yh_BadLetter : PySem.W.hasDictIn K C2 = true)
    (yt_BadLetter : PySem.W.typeIn K (.ref C2) = some (.type "type"))
    (ys_xm_Clash_BadLetter : PySem.W.subIn K (.ref C1) (.ref C2) = some false)
    (ys_xm_BadLetter_BadLetter : PySem.W.subIn K (.ref C2) (.ref C2) = some true)
    (ga_xf_BadLetter : PySem.W.findIn K (.ref C2) "__getattribute__" = some (some (.builtin "BaseException.__getattribute__")))
    (gg_xf_BadLetter : PySem.W.findIn K (.ref C2) "__getattr__" = some none)
    (gb_xf_BadLetter : PySem.W.subIn K (.ref C2) (.type "BaseException") = some true)
    (gh_xf_BadLetter : PySem.W.hasDictIn K C2 = true)
    (qxn_BadLetter_field : PySem.W.findIn K (.ref C2) "field" = some none)
    (ys_xm_MailError_Clash : PySem.W.subIn K (.ref C0) (.ref C1) = some false)
    (yb_Clash : PySem.W.subIn K (.ref C1) (.type "BaseException") = some true)
    (yh_Clash : PySem.W.hasDictIn K C1 = true)
    (yt_Clash : PySem.W.typeIn K (.ref C1) = some (.type "type"))
    (ys_xm_Clash_Clash : PySem.W.subIn K (.ref C1) (.ref C1) = some true)
    (ys_xm_BadLetter_Clash : PySem.W.subIn K (.ref C2) (.ref C1) = some false)
    (z_any : PySem.W.nsIn K mainGlobals "any" = some none)
    (z_max : PySem.W.nsIn K mainGlobals "max" = some none)
    (z_min : PySem.W.nsIn K mainGlobals "min" = some none)
    (z_sorted : PySem.W.nsIn K mainGlobals "sorted" = some none)
    : ∃ fd : FuncData, (∀ (s : Shared) (v : Value), BindsTo s fd ⟨[v], []⟩ [("_law_script", v)]) ∧ ∀ base : Heap, K.In base → base.Ns mainGlobals mg → FnOk l.prog w K mg base CX0 8 fa fd ["_law_script"] (spF K (f_law fun i => ([C0, C1, C2, C3] : List Addr).getD i 0)) := by
  have e := hfa.symm.trans (PySem.W.mg_of X G a_law)
  cases e
  let cl : Nat → Addr := fun i => ([C0, C1, C2, C3] : List Addr).getD i 0
  have F_law_bag := fun_mk (st := s_law_bag) l_law_bag cd_in_law_bag kp_law_bag
  have b_law_bag := F_law_bag.binds (ps := ["_law_script", "_law_at"]) fun _ _ _ _ _ _ us hl => match us, hl with | [_, _], _ => rfl
  have g_law_bag := PySem.W.mg_of X G a_law_bag
  have k_law_bag := kp_law_bag
  have F_law_take := fun_mk (st := s_law_take) l_law_take cd_in_law_take kp_law_take
  have b_law_take := F_law_take.binds (ps := ["_law_bag_here", "_law_many"]) fun _ _ _ _ _ _ us hl => match us, hl with | [_, _], _ => rfl
  have g_law_take := PySem.W.mg_of X G a_law_take
  have k_law_take := kp_law_take
  have F_law_name := fun_mk (st := s_law_name) l_law_name cd_in_law_name kp_law_name
  have b_law_name := F_law_name.binds (ps := ["_law_bag_here"]) fun _ _ _ _ _ _ us hl => match us, hl with | [_], _ => rfl
  have g_law_name := PySem.W.mg_of X G a_law_name
  have k_law_name := kp_law_name
  have F_law_names := fun_mk (st := s_law_names) l_law_names cd_in_law_names kp_law_names
  have b_law_names := F_law_names.binds (ps := ["_law_bag_here", "_law_most"]) fun _ _ _ _ _ _ us hl => match us, hl with | [_, _], _ => rfl
  have g_law_names := PySem.W.mg_of X G a_law_names
  have k_law_names := kp_law_names
  have F_law_number := fun_mk (st := s_law_number) l_law_number cd_in_law_number kp_law_number
  have b_law_number := F_law_number.binds (ps := ["_law_bag_here"]) fun _ _ _ _ _ _ us hl => match us, hl with | [_], _ => rfl
  have g_law_number := PySem.W.mg_of X G a_law_number
  have k_law_number := kp_law_number
  have F_law_answers := fun_mk (st := s_law_answers) l_law_answers cd_in_law_answers kp_law_answers
  have b_law_answers := F_law_answers.binds (ps := ["_law_bag_here", "_law_number_here"]) fun _ _ _ _ _ _ us hl => match us, hl with | [_, _], _ => rfl
  have g_law_answers := PySem.W.mg_of X G a_law_answers
  have k_law_answers := kp_law_answers
  have F_law_fields := fun_mk (st := s_law_fields) l_law_fields cd_in_law_fields kp_law_fields
  have b_law_fields := F_law_fields.binds (ps := ["_law_bag_here"]) fun _ _ _ _ _ _ us hl => match us, hl with | [_], _ => rfl
  have g_law_fields := PySem.W.mg_of X G a_law_fields
  have k_law_fields := kp_law_fields
  have F_is_name := fun_mk (st := s_is_name) l_is_name cd_in_is_name kp_is_name
  have b_is_name := F_is_name.binds (ps := ["value"]) fun _ _ _ _ _ _ us hl => match us, hl with | [_], _ => rfl
  have g_is_name := PySem.W.mg_of X G a_is_name
  have k_is_name := kp_is_name
  have F_is_number := fun_mk (st := s_is_number) l_is_number cd_in_is_number kp_is_number
  have b_is_number := F_is_number.binds (ps := ["value"]) fun _ _ _ _ _ _ us hl => match us, hl with | [_], _ => rfl
  have g_is_number := PySem.W.mg_of X G a_is_number
  have k_is_number := kp_is_number
  have F_are_names := fun_mk (st := s_are_names) l_are_names cd_in_are_names kp_are_names
  have b_are_names := F_are_names.binds (ps := ["value", "most"]) fun _ _ _ _ _ _ us hl => match us, hl with | [_, _], _ => rfl
  have g_are_names := PySem.W.mg_of X G a_are_names
  have k_are_names := kp_are_names
  have F_are_answers := fun_mk (st := s_are_answers) l_are_answers cd_in_are_answers kp_are_answers
  have b_are_answers := F_are_answers.binds (ps := ["value", "number"]) fun _ _ _ _ _ _ us hl => match us, hl with | [_, _], _ => rfl
  have g_are_answers := PySem.W.mg_of X G a_are_answers
  have k_are_answers := kp_are_answers
  have F_wrong_field := fun_mk (st := s_wrong_field) l_wrong_field cd_in_wrong_field kp_wrong_field
  have b_wrong_field := F_wrong_field.binds (ps := ["number", "person", "house", "answers", "subject", "words"]) fun _ _ _ _ _ _ us hl => match us, hl with | [_, _, _, _, _, _], _ => rfl
  have g_wrong_field := PySem.W.mg_of X G a_wrong_field
  have k_wrong_field := kp_wrong_field
  have F_Letter_init : FunD K "__init__" "Letter.__init__" (defArgs s_Letter_init) (defBody s_Letter_init) (defScope s_Letter_init) [] [("answers", .ref da_Letter_answers), ("subject", .ref da_Letter_subject), ("words", .ref da_Letter_words)] f_Letter_init_ _ := ⟨⟨_, _, _, _, _, _, _, _, _, _, rfl, l_Letter_init, cd_in_Letter_init, .inl ⟨rfl, rfl⟩, .inr ⟨_, rfl, fun q hq => by simp at hq; rcases hq with rfl | rfl | rfl <;> first | exact ⟨_, ns_Letter_answers, rfl⟩ | exact ⟨_, ns_Letter_subject, rfl⟩ | exact ⟨_, ns_Letter_words, rfl⟩⟩⟩, kp_Letter_init⟩
  have dd_Letter_answers : ∀ I, FD.Is K I (.ref da_Letter_answers) (.tup []) := fun I => .tup (.inr ⟨_, #[], _, tp_Letter_answers, rfl, rfl, by decide, .nil⟩) .nil
  have dd_Letter_subject : ∀ I, FD.Is K I (.ref da_Letter_subject) (.tup []) := fun I => .tup (.inr ⟨_, #[], _, tp_Letter_subject, rfl, rfl, by decide, .nil⟩) .nil
  have dd_Letter_words : ∀ I, FD.Is K I (.ref da_Letter_words) (.tup []) := fun I => .tup (.inr ⟨_, #[], _, tp_Letter_words, rfl, rfl, by decide, .nil⟩) .nil
  have F_Letter_eq := fun_mk (st := s_Letter_eq) l_Letter_eq cd_in_Letter_eq kp_Letter_eq
  have b_Letter_eq := F_Letter_eq.binds (ps := ["self", "other"]) fun _ _ _ _ _ _ us hl => match us, hl with | [_, _], _ => rfl
  have F_law_letter := fun_mk (st := s_law_letter) l_law_letter cd_in_law_letter kp_law_letter
  have b_law_letter := F_law_letter.binds (ps := ["_law_fields_here"]) fun _ _ _ _ _ _ us hl => match us, hl with | [_], _ => rfl
  have g_law_letter := PySem.W.mg_of X G a_law_letter
  have k_law_letter := kp_law_letter
  have F_law_caught := fun_mk (st := s_law_caught) l_law_caught cd_in_law_caught kp_law_caught
  have b_law_caught := F_law_caught.binds (ps := ["_law_fields_here"]) fun _ _ _ _ _ _ us hl => match us, hl with | [_], _ => rfl
  have g_law_caught := PySem.W.mg_of X G a_law_caught
  have k_law_caught := kp_law_caught
  have F_law_refused := fun_mk (st := s_law_refused) l_law_refused cd_in_law_refused kp_law_refused
  have b_law_refused := F_law_refused.binds (ps := ["_law_fields_here"]) fun _ _ _ _ _ _ us hl => match us, hl with | [_], _ => rfl
  have g_law_refused := PySem.W.mg_of X G a_law_refused
  have k_law_refused := kp_law_refused
  have F_law_are_told := fun_mk (st := s_law_are_told) l_law_are_told cd_in_law_are_told kp_law_are_told
  have b_law_are_told := F_law_are_told.binds (ps := ["_law_fields_here"]) fun _ _ _ _ _ _ us hl => match us, hl with | [_], _ => rfl
  have g_law_are_told := PySem.W.mg_of X G a_law_are_told
  have k_law_are_told := kp_law_are_told
  have F_law_is_made := fun_mk (st := s_law_is_made) l_law_is_made cd_in_law_is_made kp_law_is_made
  have b_law_is_made := F_law_is_made.binds (ps := ["_law_fields_here"]) fun _ _ _ _ _ _ us hl => match us, hl with | [_], _ => rfl
  have g_law_is_made := PySem.W.mg_of X G a_law_is_made
  have k_law_is_made := kp_law_is_made
  have F_law_bad := fun_mk (st := s_law_bad) l_law_bad cd_in_law_bad kp_law_bad
  have b_law_bad := F_law_bad.binds (ps := ["_law_bag_here", "_law_field", "_law_fields_here"]) fun _ _ _ _ _ _ us hl => match us, hl with | [_, _, _], _ => rfl
  have g_law_bad := PySem.W.mg_of X G a_law_bad
  have k_law_bad := kp_law_bad
  have F_law := fun_mk (st := s_law) l_law cd_in_law kp_law
  have g_law := PySem.W.mg_of X G a_law
  have k_law := kp_law
  have g_MailError : mg "MailError" = some (.ref C0) := PySem.W.mg_of X G aC_MailError
  have g_Clash : mg "Clash" = some (.ref C1) := PySem.W.mg_of X G aC_Clash
  have g_BadLetter : mg "BadLetter" = some (.ref C2) := PySem.W.mg_of X G aC_BadLetter
  have g_Letter : mg "Letter" = some (.ref C3) := PySem.W.mg_of X G aC_Letter
  have c_Letter : Cls K C3 := ⟨pg_Letter, hd_Letter, po_Letter, sa_Letter⟩
  have cf_Letter : ClsF K C3 ["number", "person", "house", "answers", "subject", "words", "sender"] := ⟨c_Letter, fun f hf => by simp at hf; rcases hf with rfl | rfl | rfl | rfl | rfl | rfl | rfl <;> first | exact nf_Letter_number | exact nf_Letter_person | exact nf_Letter_house | exact nf_Letter_answers | exact nf_Letter_subject | exact nf_Letter_words | exact nf_Letter_sender, by decide⟩
  have n_Letter_number : NoAttr K C3 "number" := nf_Letter_number
  have n_Letter_person : NoAttr K C3 "person" := nf_Letter_person
  have n_Letter_house : NoAttr K C3 "house" := nf_Letter_house
  have n_Letter_answers : NoAttr K C3 "answers" := nf_Letter_answers
  have n_Letter_subject : NoAttr K C3 "subject" := nf_Letter_subject
  have n_Letter_words : NoAttr K C3 "words" := nf_Letter_words
  have n_Letter_sender : NoAttr K C3 "sender" := nf_Letter_sender
  have M_Letter : Mk K C3 f_Letter_init_ := ⟨mk_Letter, a_Letter_init, i_Letter_init, kc_Letter⟩
  have io_Letter : IsiO K C3 := ⟨c_Letter, ca_Letter, cn_Letter, ct_Letter, cm_Letter, cb_of ic_Letter ty_Letter⟩
  have eq_Letter : EqCls K C3 f_Letter_eq_ := ⟨a_Letter_eq, ne_Letter, i_Letter_eq, ob_Letter⟩
  have m_abs := PySem.W.mg_none_of X G z_abs
  have m_enumerate := PySem.W.mg_none_of X G z_enumerate
  have m_int := PySem.W.mg_none_of X G z_int
  have m_len := PySem.W.mg_none_of X G z_len
  have m_range := PySem.W.mg_none_of X G z_range
  have m_all := PySem.W.mg_none_of X G z_all
  have m_isinstance := PySem.W.mg_none_of X G z_isinstance
  have m_str := PySem.W.mg_none_of X G z_str
  have g_LONGEST_NAME := PySem.W.mg_of X G v_LONGEST_NAME
  have m_bool := PySem.W.mg_none_of X G z_bool
  have g_GREATEST_NUMBER := PySem.W.mg_of X G v_GREATEST_NUMBER
  have m_list := PySem.W.mg_none_of X G z_list
  have m_tuple := PySem.W.mg_none_of X G z_tuple
  have m_set := PySem.W.mg_none_of X G z_set
  have g_MOST_ANSWERS := PySem.W.mg_of X G v_MOST_ANSWERS
  have g_MOST_SUBJECT := PySem.W.mg_of X G v_MOST_SUBJECT
  have g_MOST_WORDS := PySem.W.mg_of X G v_MOST_WORDS
  have xm_MailError_MailError := PySem.W.exm_ref yb_MailError yh_MailError yt_MailError ys_xm_MailError_MailError
  have xm_Clash_MailError := PySem.W.exm_ref yb_MailError yh_MailError yt_MailError ys_xm_Clash_MailError
  have xm_BadLetter_MailError := PySem.W.exm_ref yb_MailError yh_MailError yt_MailError ys_xm_BadLetter_MailError
  have xm_MailError_BadLetter := PySem.W.exm_ref yb_BadLetter yh_BadLetter yt_BadLetter ys_xm_MailError_BadLetter
  have xm_Clash_BadLetter := PySem.W.exm_ref yb_BadLetter yh_BadLetter yt_BadLetter ys_xm_Clash_BadLetter
  have xm_BadLetter_BadLetter := PySem.W.exm_ref yb_BadLetter yh_BadLetter yt_BadLetter ys_xm_BadLetter_BadLetter
  have xf_BadLetter : XfC K C2 := ⟨ga_xf_BadLetter, gg_xf_BadLetter, gb_xf_BadLetter, gh_xf_BadLetter⟩
  have xn_BadLetter_field := qxn_BadLetter_field
  have xm_MailError_Clash := PySem.W.exm_ref yb_Clash yh_Clash yt_Clash ys_xm_MailError_Clash
  have xm_Clash_Clash := PySem.W.exm_ref yb_Clash yh_Clash yt_Clash ys_xm_Clash_Clash
  have xm_BadLetter_Clash := PySem.W.exm_ref yb_Clash yh_Clash yt_Clash ys_xm_BadLetter_Clash
  have m_any := PySem.W.mg_none_of X G z_any
  have m_max := PySem.W.mg_none_of X G z_max
  have m_min := PySem.W.mg_none_of X G z_min
  have m_sorted := PySem.W.mg_none_of X G z_sorted
  have m_super := PySem.W.mg_none_of X G z_super
  obtain ⟨mv_kb_Letter_3_answers_subject_words, kb_Letter_3_answers_subject_words⟩ := F_Letter_init.kbinds0 (ps := ["self", "number", "person", "house", "answers", "subject", "words"]) 4 ["answers", "subject", "words"] [] (fun us mv ws => us ++ ws) (by simp) (by simp) (fun h1 h2 h3 => h1.append h3) (fun D doc pm an cdv ct us mv ws h1 h2 h3 => match us, mv, ws, h1, h2, h3 with | [_, _, _, _], [], [_, _, _], _, _, _ => rfl)
  obtain ⟨mv_kb_Letter_3_, kb_Letter_3_⟩ := F_Letter_init.kbinds0 (ps := ["self", "number", "person", "house", "answers", "subject", "words"]) 4 [] [("answers", .ref da_Letter_answers), ("subject", .ref da_Letter_subject), ("words", .ref da_Letter_words)] (fun us mv ws => us ++ mv) (by simp) (by simp) (fun h1 h2 h3 => h1.append h2) (fun D doc pm an cdv ct us mv ws h1 h2 h3 => match us, mv, ws, h1, h2, h3 with | [_, _, _, _], [_, _, _], [], _, _, _ => ⟨_, _, _, _, _, _, rfl, rfl, _, _, _, _, _, _, rfl, rfl, _, _, _, _, _, _, rfl, rfl, rfl⟩)
  obtain ⟨mv_kb_Letter_3_words, kb_Letter_3_words⟩ := F_Letter_init.kbinds0 (ps := ["self", "number", "person", "house", "answers", "subject", "words"]) 4 ["words"] [("answers", .ref da_Letter_answers), ("subject", .ref da_Letter_subject)] (fun us mv ws => us ++ (mv ++ ws)) (by simp) (by simp) (fun h1 h2 h3 => h1.append (h2.append h3)) (fun D doc pm an cdv ct us mv ws h1 h2 h3 => match us, mv, ws, h1, h2, h3 with | [_, _, _, _], [_, _], [_], _, _, _ => ⟨_, _, _, _, _, _, rfl, rfl, _, _, _, _, _, _, rfl, rfl, rfl⟩)
  have x_BadLetter : OexC K C2 := ⟨⟨_, _, _, _, _, _, _, _, _, _, _, _, _, _, _, ex_BadLetter_init, rv_BadLetter_init⟩, es_BadLetter_init, eb_BadLetter_init, et_BadLetter_init, ek_BadLetter_init⟩
  have i_BadLetter := a_BadLetter_init
  have t_BadLetter := tf_BadLetter_init
  have SF_BadLetter_init : SupF K l.prog C2 f_BadLetter_init_ s_BadLetter_init _ := ⟨⟨_, _, _, _, _, _, _, _, _, _, _, _, _, _, _, _, _, _, _, _, _, _, _, rfl, l_BadLetter_init, cd_in_BadLetter_init, lc_BadLetter_init, lf_BadLetter_init, lm_BadLetter_init, lx_BadLetter_init, lk_BadLetter_init⟩, smain, x_BadLetter, stat, sup_al lk_BadLetter_init lb_BadLetter_init mr_BadLetter_init fb_BadLetter_init, sD_BadLetter_init, sV_BadLetter_init⟩
  have b_BadLetter_init : Binds K _ ["self", "field"] [] := fun s us hK hl => by
    rw [List.append_nil] at hl ⊢
    exact match us, hl with | [_, _], _ => .of_eq (fd := PySem.W.ksFn "__init__" "BadLetter.__init__" (defArgs s_BadLetter_init) (defBody s_BadLetter_init) (defScope s_BadLetter_init) .none kV_BadLetter_init dc_BadLetter_init pm_BadLetter_init an_BadLetter_init (.ref cda_BadLetter_init) ct_BadLetter_init cc_BadLetter_init) rfl
  refine ⟨PySem.W.fnOf "law" "law" (defArgs s_law) (defBody s_law) (defScope s_law) .none kV_law dc_law pm_law an_law cd_law ct_law, fun s v => .of_eq rfl, fun base _ _ => ?_⟩
  have G_BadLetter_init : FnOk l.prog w K mg base CX0 1 f_BadLetter_init_ _ ["self", "field"] (spXI C2 ["field"]) := xinit1 (k := 0) SF_BadLetter_init m_super rfl rfl rfl (NdefX.nscope_by (by decide +kernel)) rfl ef_BadLetter_init_field rfl rfl (fun _ => rfl) (fun _ => ⟨_, rfl⟩)
  have G_law_bag := ok_law_bag (P := l.prog) (w := w) (mg := mg) (base := base) (cl := cl) F_law_bag m_abs m_enumerate m_int m_len
  have G_law_take := ok_law_take (P := l.prog) (w := w) (mg := mg) (base := base) (cl := cl) F_law_take m_int
  have G_law_name := ok_law_name (P := l.prog) (w := w) (mg := mg) (base := base) (cl := cl) F_law_name G_law_take g_law_take k_law_take b_law_take m_range
  have G_law_names := ok_law_names (P := l.prog) (w := w) (mg := mg) (base := base) (cl := cl) F_law_names G_law_take g_law_take k_law_take b_law_take G_law_name g_law_name k_law_name b_law_name m_len m_range
  have G_law_number := ok_law_number (P := l.prog) (w := w) (mg := mg) (base := base) (cl := cl) F_law_number G_law_take g_law_take k_law_take b_law_take
  have G_law_answers := ok_law_answers (P := l.prog) (w := w) (mg := mg) (base := base) (cl := cl) F_law_answers G_law_take g_law_take k_law_take b_law_take m_int m_range
  have G_law_fields := ok_law_fields (P := l.prog) (w := w) (mg := mg) (base := base) (cl := cl) F_law_fields G_law_number g_law_number k_law_number b_law_number G_law_take g_law_take k_law_take b_law_take G_law_name g_law_name k_law_name b_law_name G_law_names g_law_names k_law_names b_law_names G_law_answers g_law_answers k_law_answers b_law_answers m_range
  have G_is_name := ok_is_name (P := l.prog) (w := w) (mg := mg) (base := base) (cl := cl) F_is_name m_all m_isinstance m_len m_str g_LONGEST_NAME
  have G_is_number := ok_is_number (P := l.prog) (w := w) (mg := mg) (base := base) (cl := cl) F_is_number m_bool m_int m_isinstance g_GREATEST_NUMBER
  have G_are_names := ok_are_names (P := l.prog) (w := w) (mg := mg) (base := base) (cl := cl) F_are_names G_is_name g_is_name k_is_name b_is_name m_all m_isinstance m_len m_list m_tuple
  have G_are_answers := ok_are_answers (P := l.prog) (w := w) (mg := mg) (base := base) (cl := cl) F_are_answers G_is_number g_is_number k_is_number b_is_number m_all m_isinstance m_len m_list m_set m_tuple g_MOST_ANSWERS
  have G_wrong_field := ok_wrong_field (P := l.prog) (w := w) (mg := mg) (base := base) (cl := cl) F_wrong_field G_is_number g_is_number k_is_number b_is_number G_is_name g_is_name k_is_name b_is_name G_are_answers g_are_answers k_are_answers b_are_answers G_are_names g_are_names k_are_names b_are_names g_MOST_SUBJECT g_MOST_WORDS
  have G_Letter_init := ok_Letter_init (P := l.prog) (w := w) (mg := mg) (base := base) (cl := cl) F_Letter_init G_wrong_field g_wrong_field k_wrong_field b_wrong_field g_BadLetter x_BadLetter i_BadLetter t_BadLetter G_BadLetter_init b_BadLetter_init c_Letter n_Letter_number n_Letter_person n_Letter_house n_Letter_answers n_Letter_subject n_Letter_words n_Letter_sender m_tuple
  have G_Letter_eq := ok_Letter_eq (P := l.prog) (w := w) (mg := mg) (base := base) (cl := cl) F_Letter_eq cf_Letter g_Letter io_Letter m_isinstance
  have G_law_letter := ok_law_letter (P := l.prog) (w := w) (mg := mg) (base := base) (cl := cl) F_law_letter G_Letter_init g_Letter M_Letter kb_Letter_3_answers_subject_words m_list
  have G_law_caught := ok_law_caught (P := l.prog) (w := w) (mg := mg) (base := base) (cl := cl) F_law_caught G_Letter_init g_Letter M_Letter kb_Letter_3_answers_subject_words g_MailError xm_MailError_MailError xm_Clash_MailError xm_BadLetter_MailError
  have G_law_refused := ok_law_refused (P := l.prog) (w := w) (mg := mg) (base := base) (cl := cl) F_law_refused G_Letter_init g_Letter M_Letter kb_Letter_3_answers_subject_words g_BadLetter xm_MailError_BadLetter xm_Clash_BadLetter xm_BadLetter_BadLetter xf_BadLetter xn_BadLetter_field g_Clash xm_MailError_Clash xm_Clash_Clash xm_BadLetter_Clash
  have G_law_are_told := ok_law_are_told (P := l.prog) (w := w) (mg := mg) (base := base) (cl := cl) F_law_are_told G_is_number g_is_number k_is_number b_is_number G_is_name g_is_name k_is_name b_is_name m_any
  have G_law_is_made := ok_law_is_made (P := l.prog) (w := w) (mg := mg) (base := base) (cl := cl) F_law_is_made G_Letter_init g_Letter M_Letter kb_Letter_3_answers_subject_words cf_Letter G_Letter_eq b_Letter_eq eq_Letter G_law_letter g_law_letter k_law_letter b_law_letter m_bool m_isinstance m_list m_tuple
  have G_law_bad := ok_law_bad (P := l.prog) (w := w) (mg := mg) (base := base) (cl := cl) F_law_bad G_law_take g_law_take k_law_take b_law_take m_int m_isinstance m_range
  exact ok_law (P := l.prog) (w := w) (mg := mg) (base := base) (cl := cl) F_law G_Letter_init g_Letter dd_Letter_answers dd_Letter_subject dd_Letter_words M_Letter kb_Letter_3_ kb_Letter_3_words G_Letter_eq b_Letter_eq eq_Letter cf_Letter G_law_bag g_law_bag k_law_bag b_law_bag G_law_fields g_law_fields k_law_fields b_law_fields G_law_is_made g_law_is_made k_law_is_made b_law_is_made G_law_take g_law_take k_law_take b_law_take G_law_letter g_law_letter k_law_letter b_law_letter G_law_bad g_law_bad k_law_bad b_law_bad G_law_caught g_law_caught k_law_caught b_law_caught G_law_refused g_law_refused k_law_refused b_law_refused G_law_are_told g_law_are_told k_law_are_told b_law_are_told m_int m_len m_list m_max m_min m_range m_sorted
theorem sp_here (cl : Nat → Addr) (hl : ∀ ns : List Int, ns.length ≤ 63 → ∃ post, f_law cl [.d (.lst (ns.map .int))] = some (.ret (.d (.bl true)) post)) {K : PySem.W.Frag} {H : Hp} {a : Addr} {ns : List Int} (hz : ns.length ≤ 63) (hS : SqL K H a (ns.map V.int)) : spF K (f_law cl) [.ref a] H (fun v _ => v = .bl true) fun _ _ _ => False := by
  obtain ⟨post, e⟩ := hl ns hz
  refine spF_pure (xs := [.lst (ns.map .int)]) (Ex.refl H) (.cons (.lst hS (isA_ints.mpr rfl)) .nil) e rfl fun v I' H' _ _ hv => ?_
  cases hv
  rfl
def okCl (cl : Nat → Addr) : Prop := [cl 0, cl 1, cl 2, cl 3].Nodup
def spLaw (K : PySem.W.Frag) : Sp := fun vs H Q E => ∀ cl, okCl cl → spF K (f_law cl) vs H Q E
theorem law_sp {P : Program} {w : PySem.World} {K : PySem.W.Frag} {mg : Str → Option Value} {base : Heap} {k : Nat} {f : Addr} {fd : FuncData} {ps : List Str} {cl : Nat → Addr} (hc : okCl cl) (F : FnOk P w K mg base CX0 k f fd ps (spF K (f_law cl))) : FnOk P w K mg base CX0 k f fd ps (spLaw K) :=
  ⟨fun vs H Q E h => F.len vs H Q E (h cl hc), fun A outer s H args us vs Q E hr he hb hv h => F.run A outer s H args us vs Q E hr he hb hv (h cl hc)⟩
end G00

namespace G00
open PySem PySem.Spec PyProof.Rows L2 FD
abbrev Bg := Int × Int
def okB (s : Bg) : Prop := 0 ≤ s.1 ∧ 0 ≤ s.2 ∧ s.2 < 2147483563
def bg (s : Bg) : T := .lst [.int s.1, .int s.2]
def tkS (s : Bg) (n : Int) : Bg := if 0 < s.1 then (s.1 / n, s.2) else (s.1, (s.2 * 40014 + 7919) % 2147483563)
def tk (s : Bg) (n : Int) : Int := if 0 < s.1 then s.1 % n else (((s.2 * 40014 + 7919) % 2147483563) / 7 * 40692) % 2147483399 / 16 % n
theorem take_eq {s : Bg} {n : Int} (cl : Nat → Addr) (h : okB s) (hl : dvOk n) : f_law_take cl [bg s, .d (.int n)] = some (.ret (.d (.int (tk s n))) [bg (tkS s n), .d (.int n)]) := by
  obtain ⟨a, b⟩ := s
  obtain ⟨h1, h2, h3⟩ := h
  have hn := hl.1
  by_cases ha : 0 < a
  · simp [f_law_take, b_law_take, bg, tk, tkS, ha, hn, hl, ixN]
  · have m1 : mulOk b 40014 := lgMul ⟨by omega, by omega⟩ ⟨by decide, by decide⟩
    have m2 : mulOk ((b * 40014 + 7919) % 2147483563 / 7) 40692 := lgMul ⟨by omega, by omega⟩ ⟨by decide, by decide⟩
    simp [f_law_take, b_law_take, bg, tk, tkS, ha, hn, hl, ixN, m1, m2]
theorem tkS_ok {s : Bg} {n : Int} (h : okB s) (hn : 0 < n) : okB (tkS s n) := by
  obtain ⟨a, b⟩ := s
  obtain ⟨h1, h2, h3⟩ := h
  unfold tkS okB
  split
  · exact ⟨Int.ediv_nonneg h1 (by omega), h2, h3⟩
  · exact ⟨h1, by omega, by omega⟩
theorem tk_rng {s : Bg} {n : Int} (h : okB s) (hn : 0 < n) : 0 ≤ tk s n ∧ tk s n < n := by
  unfold tk
  split
  · exact ⟨Int.emod_nonneg _ (by omega), Int.emod_lt_of_pos _ hn⟩
  · exact ⟨Int.emod_nonneg _ (by omega), Int.emod_lt_of_pos _ hn⟩
/-- many takes in a row -/
def tkN : Nat → Int → Bg → List Int × Bg
  | 0, _, s => ([], s)
  | k + 1, n, s => let r := tkN k n (tkS s n); (tk s n :: r.1, r.2)
theorem tkN_ok : ∀ {k : Nat} {n : Int} {s : Bg}, okB s → 0 < n → okB (tkN k n s).2 ∧ (tkN k n s).1.length = k ∧ ∀ x ∈ (tkN k n s).1, 0 ≤ x ∧ x < n
  | 0, n, s, h, hn => ⟨h, rfl, fun x hx => by simp [tkN] at hx⟩
  | k + 1, n, s, h, hn => by
    obtain ⟨h1, h2, h3⟩ := tkN_ok (k := k) (tkS_ok (n := n) h hn) hn
    refine ⟨h1, by simp [tkN, h2], fun x hx => ?_⟩
    simp [tkN] at hx
    rcases hx with rfl | hx
    · exact tk_rng h hn
    · exact h3 x hx
end G00

namespace G00
open PySem PySem.Spec PyProof.Rows L2 FD
theorem lcE_ex {S : Type} (Γ : S → List T) (P : S → Prop) (R : D → Prop) {vs : List Nat} {g : D → List T → Option (List T)} {f : List T → Option (T × List T)} {ok : D → Prop} (hb : ∀ s d, P s → ok d → ∃ γ1 t γ3 y s', g d (Γ s) = some γ1 ∧ f γ1 = some (t, γ3) ∧ t.toD = some y ∧ unset vs γ3 = Γ s' ∧ P s' ∧ R y) :
    ∀ ds s, P s → (∀ d ∈ ds, ok d) → ∃ ys s', lcE vs g (eT bYes) f ds (Γ s) = some (ys, Γ s') ∧ P s' ∧ ys.length = ds.length ∧ ∀ y ∈ ys, R y
  | [], s, h, _ => ⟨[], s, rfl, h, rfl, fun y hy => by simp at hy⟩
  | d :: ds, s, h, hd => by
    obtain ⟨γ1, t, γ3, y, s1, e1, e2, e3, e4, p1, r1⟩ := hb s d h (hd d (by simp))
    obtain ⟨ys, s2, e5, p2, l2, r2⟩ := lcE_ex Γ P R hb ds s1 p1 fun d m => hd d (by simp [m])
    refine ⟨y :: ys, s2, ?_, p2, by simp [l2], fun z hz => ?_⟩
    · unfold lcE
      rw [e1, Option.bind_some]
      have : eT bYes γ1 = some (true, γ1) := rfl
      rw [this, Option.bind_some]
      simp only [if_true]
      rw [e2, Option.bind_some]
      simp only
      rw [e3, Option.bind_some, e4, e5]
      rfl
    · rcases List.mem_cons.mp hz with rfl | hz
      · exact r1
      · exact r2 z hz
def wd (cs : List Nat) : Str := ⟨cs.toArray⟩
def okW (cs : List Nat) : Prop := 1 ≤ cs.length ∧ cs.length ≤ 8 ∧ ∀ c ∈ cs, 97 ≤ c ∧ c ≤ 122
theorem str_app (a b : List Nat) : wd a ++ wd b = wd (a ++ b) := by
  show Str.mk (a.toArray ++ b.toArray) = Str.mk (a ++ b).toArray
  simp
theorem join_one : ∀ (cs : List Nat), Str.join (wd []) (cs.map fun c => wd [c]) = wd cs
  | [] => rfl
  | [c] => rfl
  | c :: d :: cs => by
    have h := join_one (d :: cs)
    show wd [c] ++ wd [] ++ Str.join (wd []) ((d :: cs).map fun c => wd [c]) = _
    rw [h, str_app, str_app]
    rfl
def wL (cs : List Nat) : List D := cs.map fun c => .str (wd [c])
theorem wL_len (cs : List Nat) : (wL cs).length = cs.length := by simp [wL]
theorem wL_eq (cs : List Nat) : wL cs = (cs.map fun c => wd [c]).map .str := by simp [wL]
def isL (y : D) : Prop := ∃ c : Nat, y = .str (wd [c]) ∧ 97 ≤ c ∧ c ≤ 122
theorem isL_all : ∀ {ys : List D}, (∀ y ∈ ys, isL y) → ∃ cs : List Nat, ys = wL cs ∧ cs.length = ys.length ∧ ∀ c ∈ cs, 97 ≤ c ∧ c ≤ 122
  | [], _ => ⟨[], rfl, rfl, fun c h => by simp at h⟩
  | y :: ys, h => by
    obtain ⟨c, rfl, h1⟩ := h y (by simp)
    obtain ⟨cs, rfl, h2, h3⟩ := isL_all (ys := ys) fun z hz => h z (by simp [hz])
    refine ⟨c :: cs, rfl, by simpa using h2, fun d hd => ?_⟩
    rcases List.mem_cons.mp hd with rfl | hd
    · exact h1
    · exact h3 d hd
theorem abc {i : Int} (h : 0 ≤ i) (h2 : i < 26) : ∃ c : Nat, atI (("abcdefghijklmnopqrstuvwxyz" : Str).cps.toList) i = some c ∧ 97 ≤ c ∧ c ≤ 122 := by
  obtain ⟨n, rfl⟩ := Int.eq_ofNat_of_zero_le h
  have hn : n < 26 := by omega
  have : ∀ n : Nat, n < 26 → ∃ c : Nat, atI (("abcdefghijklmnopqrstuvwxyz" : Str).cps.toList) (n : Int) = some c ∧ 97 ≤ c ∧ c ≤ 122 := by
    intro n hn
    have h3 : n ∈ List.range 26 := List.mem_range.mpr hn
    have key : ∀ n ∈ List.range 26, (atI (("abcdefghijklmnopqrstuvwxyz" : Str).cps.toList) ((n : Nat) : Int)) = some (97 + n) := by decide +kernel
    exact ⟨97 + n, key n h3, by omega, by omega⟩
  exact this n hn
theorem allS_strs : ∀ {ys : List Str}, allS (ys.map .str) = some ys
  | [] => rfl
  | y :: ys => by simp [allS, allS_strs (ys := ys)]
theorem sum_one : ∀ (cs : List Nat), ((cs.map fun c => wd [c]).map (·.length)).sum = cs.length
  | [] => rfl
  | c :: cs => by
    have := sum_one cs
    simp only [List.map_cons, List.sum_cons, this, List.length_cons]
    show 1 + cs.length = cs.length + 1
    omega
theorem oJoin_one {cs : List Nat} (h : cs.length ≤ 100) : oJoin (.str (Str.ofString "")) (.lst (wL cs)) = some (.str (wd cs)) := by
  rw [wL_eq]
  unfold oJoin
  have e : Str.ofString "" = wd [] := by decide
  have l0 : (wd []).length = 0 := rfl
  simp only [items, Option.bind_some, allS_strs, sum_one, e, l0]
  rw [if_pos (by simp; omega), join_one]
theorem takeE {s : Bg} {n : Int} (cl : Nat → Addr) (h : okB s) (hl : dvOk n) : f_law_take cl [.lst [.int s.1, .int s.2], .d (.int n)] = some (.ret (.d (.int (tk s n))) [.lst [.int (tkS s n).1, .int (tkS s n).2], .d (.int n)]) := take_eq cl h hl
theorem name_ex {s : Bg} (cl : Nat → Addr) (h : okB s) : ∃ cs s', okW cs ∧ okB s' ∧ f_law_name cl [bg s] = some (.ret (.d (.str (wd cs))) [bg s']) := by
  have d8 : dvOk 8 := by decide
  have d26 : dvOk 26 := by decide
  have r8 := tk_rng (s := s) (n := 8) h (by omega)
  have h1 := tkS_ok (s := s) (n := 8) h (by omega)
  obtain ⟨ys, s2, e1, p1, l1, r1⟩ := lcE_ex (S := Bg) (fun s' => [bg s', .d (.int (1 + tk s 8)), .em]) okB isL (vs := [2]) (g := gN 2) (f := (eOp [none, none] oIx (aCons (eP (pC (.str "abcdefghijklmnopqrstuvwxyz"))) (aCons (eCall (f_law_take cl) [some 0, none] (aBor 0 (aCons (eP (pC (.int 26))) aNil))) aNil)))) (ok := fun _ => True) (fun s' d hs _ => by
      have r26 := tk_rng (s := s') (n := 26) hs (by omega)
      obtain ⟨c, hc, hc2⟩ := abc r26.1 r26.2
      have hz : (("abcdefghijklmnopqrstuvwxyz" : Str)).length ≤ sizeLine := by decide
      refine ⟨[bg s', .d (.int (1 + tk s 8)), .d d], .d (.str (wd [c])), [bg (tkS s' 26), .d (.int (1 + tk s 8)), .d d], .str (wd [c]), tkS s' 26, rfl, ?_, rfl, rfl, tkS_ok hs (by omega), c, rfl, hc2⟩
      simp [bg, takeE cl hs d26, oIx, hz, hc]
      try rfl) (intsD 0 (1 + tk s 8).toNat) (tkS s 8) h1 (fun _ _ => trivial)
  obtain ⟨cs, rfl, h2, h3⟩ := isL_all r1
  have hl : cs.length = (1 + tk s 8).toNat := by
    have := l1
    simp [intsD, wL_len] at this
    omega
  refine ⟨cs, s2, ⟨by omega, by omega, h3⟩, p1, ?_⟩
  have hsz : (intsD 0 (1 + tk s 8).toNat).length < sizeLine := by
    have : (intsD 0 (1 + tk s 8).toNat).length = (1 + tk s 8).toNat := by simp [intsD]
    rw [this]
    have : (9 : Nat) < sizeLine := by decide
    omega
  have hr : -4611686018427387904 ≤ 1 + tk s 8 ∧ 1 + tk s 8 < 4611686018427387904 := by omega
  simp only [bg] at e1
  simp [f_law_name, b_law_name, bg, takeE cl h d8, hr, hsz, e1, T.toD, oJoin_one (cs := cs) (by omega), postP]
  try trace_state
end G00

namespace G00
open PySem PySem.Spec PyProof.Rows L2 FD
theorem le_a {c : Nat} (h : 97 ≤ c) : oLe (.str (Str.ofString "a")) (.str ⟨#[c]⟩) = some (.bl true) := by
  have e : (Str.ofString "a").cps.toList = [97] := by decide
  have : ¬ ([c] < [97]) := fun z => by
    rw [List.cons_lt_cons_iff] at z
    rcases z with z | ⟨_, z⟩
    · omega
    · exact absurd z (List.not_lt_nil _)
  simp only [oLe, e]
  rw [decide_eq_false this]
  rfl
theorem le_z {c : Nat} (h : c ≤ 122) : oLe (.str ⟨#[c]⟩) (.str (Str.ofString "z")) = some (.bl true) := by
  have e : (Str.ofString "z").cps.toList = [122] := by decide
  have : ¬ ([122] < [c]) := fun z => by
    rw [List.cons_lt_cons_iff] at z
    rcases z with z | ⟨_, z⟩
    · omega
    · exact absurd z (List.not_lt_nil _)
  simp only [oLe, e]
  rw [decide_eq_false this]
  rfl
theorem allB_true : ∀ {xs : List D}, (∀ x ∈ xs, x = .bl true) → ∃ bs, FD.allB xs = some bs ∧ bs.all id = true
  | [], _ => ⟨[], rfl, rfl⟩
  | x :: xs, h => by
    obtain ⟨bs, e, hb⟩ := allB_true (xs := xs) fun y m => h y (by simp [m])
    cases h x (by simp)
    exact ⟨true :: bs, by simp [FD.allB, e], by simp [hb]⟩
theorem is_name_ok {cs : List Nat} (cl : Nat → Addr) (h : okW cs) : f_is_name cl [.d (.str (wd cs))] = some (.ret (.d (.bl true)) [.d (.str (wd cs))]) := by
  obtain ⟨h1, h2, h3⟩ := h
  have hl : (wd cs).length = cs.length := by simp [wd, Str.length]
  have hz : (wd cs).length ≤ sizeLine := by rw [hl]; have : (8 : Nat) ≤ sizeLine := by decide
                                            omega
  have hlc := lcP_mapT (enc := fun c : Nat => D.str ⟨#[c]⟩) (g := gN 1) (f := (pChain oLe oLe (pC (.str "a")) (pVar 1) (pC (.str "z")))) (γ := [.d (.str (wd cs)), .em]) (fun _ => .bl true) cs (fun c hc => ⟨[.d (.str (wd cs)), .d (.str ⟨#[c]⟩)], rfl, by simp [le_a (h3 c hc).1, le_z (h3 c hc).2]⟩)
  have hsg : FD.signs (wd cs) = cs.map fun c : Nat => D.str ⟨#[c]⟩ := by simp [FD.signs, wd]
  obtain ⟨bs, e1, e2⟩ := allB_true (xs := cs.map fun _ => D.bl true) (fun x hx => by simp at hx; exact hx.2.symm)
  have hi : oIsi2 (.str (wd cs)) (.raw (.ty "str")) = some (.bl true) := by rfl
  have hle1 : oLe (.int 1) (.int (cs.length : Nat)) = some (.bl true) := by simp [oLe]; omega
  have hle2 : oLe (.int (cs.length : Nat)) (.int 8) = some (.bl true) := by simp [oLe]; omega
  have hlt : cs.length < sizeLine := by have : (9 : Nat) ≤ sizeLine := by decide
                                        omega
  have hz2 : cs.length ≤ sizeLine := by omega
  simp [f_is_name, b_is_name, hz, hz2, hl, hi, hle1, hle2, walkD, hsg, hlc, hlt, oLen, oAll, e1, e2, postP]
end G00

namespace G00
open PySem PySem.Spec PyProof.Rows L2 FD
theorem dvB {n : Int} (h : dvOk n) : dvOk n := h
theorem d1030 : dvOk (1000000000000000000000000000000) := by decide
theorem number_ex {s : Bg} (cl : Nat → Addr) (h : okB s) : ∃ (n : Int) (s' : Bg), 1 ≤ n ∧ n ≤ 1000000000000000000000000000000 ∧ okB s' ∧ f_law_number cl [bg s] = some (.ret (.d (.int n)) [bg s']) := by
  have d900 : dvOk 900 := by decide
  have d4 : dvOk 4 := by decide
  have r1 := tk_rng (s := s) (n := 900) h (by omega)
  have h1 := tkS_ok (s := s) (n := 900) h (by omega)
  have r2 := tk_rng (s := tkS s 900) (n := 1000000000000000000000000000000) h1 (by decide)
  have h2 := tkS_ok (s := tkS s 900) (n := 1000000000000000000000000000000) h1 (by decide)
  have r3 := tk_rng (s := tkS (tkS s 900) (1000000000000000000000000000000)) (n := 4) h2 (by omega)
  have h3 := tkS_ok (s := tkS (tkS s 900) (1000000000000000000000000000000)) (n := 4) h2 (by omega)
  have key : ∃ n, atI [D.int 1, D.int (1000000000000000000000000000000), D.int (2 + tk s 900), D.int (1 + tk (tkS s 900) (1000000000000000000000000000000))] (tk (tkS (tkS s 900) (1000000000000000000000000000000)) 4) = some (.int n) ∧ 1 ≤ n ∧ n ≤ 1000000000000000000000000000000 := by
    generalize tk (tkS (tkS s 900) (1000000000000000000000000000000)) 4 = t at r3
    have : t = 0 ∨ t = 1 ∨ t = 2 ∨ t = 3 := by omega
    rcases this with rfl | rfl | rfl | rfl
    · exact ⟨1, rfl, by decide, by decide⟩
    · exact ⟨1000000000000000000000000000000, rfl, by decide, by decide⟩
    · exact ⟨2 + tk s 900, rfl, by omega, by omega⟩
    · exact ⟨1 + tk (tkS s 900) (1000000000000000000000000000000), rfl, by omega, by omega⟩
  obtain ⟨n, e, n1, n2⟩ := key
  refine ⟨n, _, n1, n2, h3, ?_⟩
  simp [f_law_number, b_law_number, bg, takeE cl h d900, takeE cl h1 d1030, takeE cl h2 d4, e, postP, (by decide : 4 ≤ sizeLine)]

end G00

namespace G00
open PySem PySem.Spec PyProof.Rows L2 FD
def nL (ws : List (List Nat)) : List D := ws.map fun w => .str (wd w)
theorem nL_len (ws : List (List Nat)) : (nL ws).length = ws.length := by simp [nL]
def isN (y : D) : Prop := ∃ w : List Nat, y = .str (wd w) ∧ okW w
theorem isN_all : ∀ {ys : List D}, (∀ y ∈ ys, isN y) → ∃ ws, ys = nL ws ∧ ∀ w ∈ ws, okW w
  | [], _ => ⟨[], rfl, fun c h => by simp at h⟩
  | y :: ys, h => by
    obtain ⟨w, rfl, h1⟩ := h y (by simp)
    obtain ⟨ws, rfl, h3⟩ := isN_all (ys := ys) fun z hz => h z (by simp [hz])
    refine ⟨w :: ws, rfl, fun d hd => ?_⟩
    rcases List.mem_cons.mp hd with rfl | hd
    · exact h1
    · exact h3 d hd
theorem names_of {s : Bg} (cl : Nat → Addr) (h : okB s) (k : Nat) (rest : List T) (vs : List Nat) (j : Nat) (hv : ∀ (s' : Bg) (d : D), unset vs (([bg s'] ++ rest).set j (.d d)) = [bg s'] ++ rest) (hj : 1 ≤ j) : ∃ ws s', (∀ w ∈ ws, okW w) ∧ ws.length = k ∧ okB s' ∧ lcE vs (gN j) (eT bYes) (eCall (f_law_name cl) [some 0] (aBor 0 aNil)) (intsD 0 k) ([bg s] ++ rest) = some (nL ws, [bg s'] ++ rest) := by
  obtain ⟨ys, s2, e1, p1, l1, r1⟩ := lcE_ex (S := Bg) (fun s' => [bg s'] ++ rest) okB isN (vs := vs) (g := gN j) (f := (eCall (f_law_name cl) [some 0] (aBor 0 aNil))) (ok := fun _ => True) (fun s' d hs _ => by
      obtain ⟨w, s3, hw, hs3, e⟩ := name_ex cl hs
      obtain ⟨j', rfl⟩ : ∃ j', j = j' + 1 := ⟨j - 1, by omega⟩
      refine ⟨[bg s'] ++ rest.set j' (.d d), .d (.str (wd w)), [bg s3] ++ rest.set j' (.d d), .str (wd w), s3, rfl, ?_, rfl, hv s3 d, hs3, w, rfl, hw⟩
      simp only [bg] at e
      simp [bg, e]) (intsD 0 k) s h (fun _ _ => trivial)
  obtain ⟨ws, rfl, h2⟩ := isN_all r1
  refine ⟨ws, s2, h2, ?_, p1, e1⟩
  have := l1
  simp [intsD, nL_len] at this
  exact this
end G00

namespace G00
open PySem PySem.Spec PyProof.Rows L2 FD
theorem last_ex {ws : List (List Nat)} (h : 1 < ws.length) : ∃ w ∈ ws, atI (nL ws) (-1) = some (.str (wd w)) := by
  obtain ⟨init, w, rfl⟩ : ∃ init w, ws = init ++ [w] := ⟨ws.dropLast, ws.getLast (by intro e; simp [e] at h), (List.dropLast_concat_getLast _).symm⟩
  refine ⟨w, by simp, ?_⟩
  have hl : (nL (init ++ [w])).length = init.length + 1 := by simp [nL]
  have hi : ixN (init.length + 1) (-1) = some init.length := by
    simp [ixN]
    omega
  unfold atI
  rw [hl, hi, Option.bind_some]
  simp [nL]
theorem set0 (ws : List (List Nat)) (w : List Nat) : (nL ws).set 0 (.str (wd w)) = nL (ws.set 0 w) := by
  simp [nL, List.map_set]
theorem names_ex {s : Bg} (cl : Nat → Addr) (h : okB s) : ∃ ws s', (∀ w ∈ ws, okW w) ∧ ws.length ≤ 8 ∧ okB s' ∧ f_law_names cl [bg s, .d (.int 8)] = some (.ret (.lst (nL ws)) [bg s', .d (.int 8)]) := by
  have dm : dvOk 9 := by decide
  have d3 : dvOk 3 := by decide
  have r0 := tk_rng (s := s) (n := 9) h (by omega)
  have h0 := tkS_ok (s := s) (n := 9) h (by omega)
  obtain ⟨ws, s1, hw, hl, h1, e1⟩ := names_of cl h0 (tk s 9).toNat [.d (.int 8), .em, .em] [3] 3 (fun s' d => rfl) (by omega)
  have hsz : (intsD 0 (tk s 9).toNat).length < sizeLine := by
    have : (intsD 0 (tk s 9).toNat).length = (tk s 9).toNat := by simp [intsD]
    rw [this]
    have : (9 : Nat) < sizeLine := by decide
    omega
  have hr : -4611686018427387904 ≤ tk s 9 ∧ tk s 9 < 4611686018427387904 := by omega
  simp only [bg, List.cons_append, List.nil_append] at e1
  by_cases hbig : 1 < ws.length
  · have hbI : (1 : Int) < (ws.length : Int) := by omega
    have h2 := tkS_ok (s := s1) (n := 3) h1 (by omega)
    obtain ⟨w, hwm, ew⟩ := last_ex hbig
    by_cases hz : tk s1 3 = 0
    · refine ⟨ws.set 0 w, tkS s1 3, fun v hv => ?_, by simp; omega, h2, ?_⟩
      · rcases List.mem_or_eq_of_mem_set hv with z | rfl
        · exact hw v z
        · exact hw _ hwm
      · simp [f_law_names, b_law_names, bg, takeE cl h dm, hr, hsz, e1, nL_len, hbI, takeE cl h1 d3, hz, ew, set0, postP, ixN, (by omega : 0 < ws.length)]
    · refine ⟨ws, tkS s1 3, hw, by omega, h2, ?_⟩
      simp [f_law_names, b_law_names, bg, takeE cl h dm, hr, hsz, e1, nL_len, hbI, takeE cl h1 d3, hz, postP]
  · have hbI : ¬ (1 : Int) < (ws.length : Int) := by omega
    refine ⟨ws, s1, hw, by omega, h1, ?_⟩
    simp [f_law_names, b_law_names, bg, takeE cl h dm, hr, hsz, e1, nL_len, hbI, postP]
end G00

namespace G00
open PySem PySem.Spec PyProof.Rows L2 FD
theorem forS_ex {S : Type} (Γ : S → List T) (P : Nat → S → Prop) (N : Nat) {g : D → List T → Option (List T)} {b : List T → Option O} (hb : ∀ i s d, i < N → P i s → ∃ s', (g d (Γ s)).bind b = some (.nx (Γ s')) ∧ P (i + 1) s') :
    ∀ ds i s, i + ds.length ≤ N → P i s → ∃ s', forS g b ds (Γ s) = some (.nx (Γ s')) ∧ P (i + ds.length) s'
  | [], i, s, _, h => ⟨s, rfl, h⟩
  | d :: ds, i, s, hl, h => by
    simp only [List.length_cons] at hl
    obtain ⟨s1, e1, p1⟩ := hb i s d (by omega) h
    obtain ⟨s2, e2, p2⟩ := forS_ex Γ P N hb ds (i + 1) s1 (by omega) p1
    refine ⟨s2, ?_, by simp only [List.length_cons]; rw [show i + (ds.length + 1) = i + 1 + ds.length by omega]; exact p2⟩
    unfold forS
    obtain ⟨γ1, g1, g2⟩ := Option.bind_eq_some_iff.mp e1
    rw [g1, Option.bind_some, g2, Option.bind_some]
    exact e2
theorem any_ints (a : Int) (as : List Int) : ((as.map D.int).any fun z => fEq z (.int a)) = decide (a ∈ as) := by
  induction as with
  | nil => rfl
  | cons x xs ih =>
    rw [List.map_cons, List.any_cons, ih]
    by_cases h : x = a
    · subst h; simp [fEq]
    · have h' : ¬ a = x := fun e => h e.symm
      simp [fEq, h, h']
def iL (as : List Int) : List D := as.map .int
theorem iL_len (as : List Int) : (iL as).length = as.length := by simp [iL]
theorem notIn_ints (a : Int) (as : List Int) : oNotIn (.int a) (.lst (iL as)) = some (.bl (!decide (a ∈ as))) := by
  have h2 : ((as.map D.int).all D.flat) = true := by simp [D.flat]
  unfold iL
  simp only [oNotIn, items]
  rw [if_pos ⟨rfl, h2⟩, any_ints]
theorem anyI (a : Int) (as : List Int) : ((iL as).any fun z => fEq z (.int a)) = decide (a ∈ as) := any_ints a as
theorem flatI (as : List Int) : (∀ x ∈ iL as, x.flat = true) ↔ True := ⟨fun _ => trivial, fun _ x h => by simp [iL] at h; obtain ⟨a, _, rfl⟩ := h; rfl⟩
abbrev NN : Int := 1000000000000000000000000000000
structure An where
  s : Bg
  as : List Int
  last : Int
  t : T
def anG (n : Int) (x : An) : List T := [bg x.s, .d (.int n), .lst (iL x.as), .d (.int x.last), x.t]
def anP (n : Int) (i : Nat) (x : An) : Prop := x.as.length ≤ i ∧ okB x.s ∧ x.as.Nodup ∧ (∀ a ∈ x.as, 1 ≤ a ∧ a ≤ NN ∧ a ≠ n) ∧ 1 ≤ x.last ∧ x.last ≤ NN
theorem answers_ex {s : Bg} {n : Int} (cl : Nat → Addr) (h : okB s) (hn : 1 ≤ n) (hn2 : n ≤ NN) : ∃ as s', as.Nodup ∧ (∀ a ∈ as, 1 ≤ a ∧ a ≤ NN ∧ a ≠ n) ∧ as.length ≤ 8 ∧ okB s' ∧ f_law_answers cl [bg s, .d (.int n)] = some (.ret (.lst (iL as)) [bg s', .d (.int n)]) := by
  have d9 : dvOk 9 := by decide
  have d5 : dvOk 5 := by decide
  have d1000 : dvOk 1000 := by decide
  have r1 := tk_rng (s := s) (n := 9) h (by omega)
  have h1 := tkS_ok (s := s) (n := 9) h (by omega)
  have r2 := tk_rng (s := tkS s 9) (n := 5) h1 (by omega)
  have h2 := tkS_ok (s := tkS s 9) (n := 5) h1 (by omega)
  have key : ∃ k, atI [D.int 0, D.int 1, D.int 2, D.int 8, D.int (tk s 9)] (tk (tkS s 9) 5) = some (.int k) ∧ 0 ≤ k ∧ k ≤ 8 := by
    generalize tk (tkS s 9) 5 = t at r2
    have : t = 0 ∨ t = 1 ∨ t = 2 ∨ t = 3 ∨ t = 4 := by omega
    rcases this with rfl | rfl | rfl | rfl | rfl
    · exact ⟨0, rfl, by decide, by decide⟩
    · exact ⟨1, rfl, by decide, by decide⟩
    · exact ⟨2, rfl, by decide, by decide⟩
    · exact ⟨8, rfl, by decide, by decide⟩
    · exact ⟨tk s 9, rfl, by omega, by omega⟩
  obtain ⟨k, ek, k1, k2⟩ := key
  obtain ⟨x, e1, p1⟩ := forS_ex (anG n) (anP n) 8 (g := gN 4) (b := (sSeq (sAsgD 3 (eOp [none, none] oAdd (aCons (eOp [none, none] oMod (aCons (eUn [none] oInt (aCons (eOp [none, none] oAdd (aCons (eP (pVar 3)) (aCons (eCall (f_law_take cl) [some 0, none] (aBor 0 (aCons (eP (pC (.int 1000))) aNil))) aNil))) aNil)) (aCons (eP (pOp oPow (pC (.int 10)) (pC (.int 30)))) aNil))) (aCons (eP (pC (.int 1))) aNil))))
  (sIf (eT (bAnd (pTest (pOp oNotIn (pVar 3) (cVar 2))) (pTest (pOp oNe (pVar 3) (pVar 1)))))
  (sAppV 2 (eP (pVar 3)))
  sNext))) (fun i x d hi hp => by
    obtain ⟨s', as, last, t⟩ := x
    obtain ⟨g0, g1, g2, g3, g4, g5⟩ := hp
    have g0' : as.length ≤ i := g0
    have hsz : as.length < sizeLine := by have : (9 : Nat) < sizeLine := by decide
                                          omega
    have r3 := tk_rng (s := s') (n := 1000) g1 (by omega)
    have h3 := tkS_ok (s := s') (n := 1000) g1 (by omega)
    have q1 : 0 ≤ (last + tk s' 1000) % NN := Int.emod_nonneg _ (by decide)
    have q2 : (last + tk s' 1000) % NN < NN := Int.emod_lt_of_pos _ (by decide)
    by_cases hin : (last + tk s' 1000) % NN + 1 ∈ as
    · refine ⟨⟨tkS s' 1000, as, (last + tk s' 1000) % NN + 1, .d d⟩, ?_, ⟨(by show as.length ≤ i + 1; omega), h3, g2, g3, (by show 1 ≤ (last + tk s' 1000) % NN + 1; omega), (by show (last + tk s' 1000) % NN + 1 ≤ NN; omega)⟩⟩
      simp [anG, bg, takeE cl g1 d1000, anyI, flatI, hin]
    · by_cases hne : (last + tk s' 1000) % NN + 1 = n
      · refine ⟨⟨tkS s' 1000, as, (last + tk s' 1000) % NN + 1, .d d⟩, ?_, ⟨(by show as.length ≤ i + 1; omega), h3, g2, g3, (by show 1 ≤ (last + tk s' 1000) % NN + 1; omega), (by show (last + tk s' 1000) % NN + 1 ≤ NN; omega)⟩⟩
        simp [anG, bg, takeE cl g1 d1000, anyI, flatI, hin, hne]
      · refine ⟨⟨tkS s' 1000, as ++ [(last + tk s' 1000) % NN + 1], (last + tk s' 1000) % NN + 1, .d d⟩, ?_, ⟨(by simp; exact g0'), h3, ?_, ?_, (by show 1 ≤ (last + tk s' 1000) % NN + 1; omega), (by show (last + tk s' 1000) % NN + 1 ≤ NN; omega)⟩⟩
        · simp [anG, bg, takeE cl g1 d1000, anyI, flatI, hin, hne]
          simp [iL, hsz]
        · exact List.nodup_append.mpr ⟨g2, by simp, fun a ha b hb e => by simp at hb; subst hb; subst e; exact hin ha⟩
        · intro a ha
          rcases List.mem_append.mp ha with z | z
          · exact g3 a z
          · simp at z; subst z; exact ⟨by omega, by omega, hne⟩) (intsD 0 k.toNat) 0 ⟨tkS (tkS s 9) 5, [], n, .em⟩ (by simp [intsD]; omega) ⟨by simp, h2, by simp, fun a ha => by simp at ha, hn, hn2⟩
  obtain ⟨q0, q1, q2, q3, q4, q5⟩ := p1
  have hr : -4611686018427387904 ≤ k ∧ k < 4611686018427387904 := by omega
  refine ⟨x.as, x.s, q2, q3, ?_, q1, ?_⟩
  · have : (intsD 0 k.toNat).length = k.toNat := by simp [intsD]
    rw [this] at q0
    omega
  · simp only [anG, bg, iL, List.map_nil] at e1
    simp [f_law_answers, b_law_answers, bg, takeE cl h d9, takeE cl h1 d5, (by decide : 5 ≤ sizeLine), (by decide : 0 ≤ sizeLine), ek, hr, e1, iL, postP]
end G00

namespace G00
open PySem PySem.Spec PyProof.Rows L2 FD
/-- drawn fields of a right letter -/
structure Fd where
  n : Int
  p : List Nat
  q : List Nat
  as : List Int
  sub : List (List Nat)
  ws : List (List Nat)
def okF (f : Fd) : Prop := 1 ≤ f.n ∧ f.n ≤ NN ∧ okW f.p ∧ okW f.q ∧ (f.as.Nodup ∧ (∀ a ∈ f.as, 1 ≤ a ∧ a ≤ NN ∧ a ≠ f.n) ∧ f.as.length ≤ 8) ∧ ((∀ w ∈ f.sub, okW w) ∧ f.sub.length ≤ 8) ∧ ((∀ w ∈ f.ws, okW w) ∧ f.ws.length ≤ 40)
def fdL (f : Fd) : List D := [.int f.n, .str (wd f.p), .str (wd f.q), .lst (iL f.as), .lst (nL f.sub), .lst (nL f.ws)]
theorem fields_ex {s : Bg} (cl : Nat → Addr) (h : okB s) : ∃ f s', okF f ∧ okB s' ∧ f_law_fields cl [bg s] = some (.ret (.lst (fdL f)) [bg s']) := by
  have d12 : dvOk 12 := by decide
  have d5 : dvOk 5 := by decide
  obtain ⟨n, s1, n1, n2, h1, e1⟩ := number_ex cl h
  have r2 := tk_rng (s := s1) (n := 12) h1 (by omega)
  have h2 := tkS_ok (s := s1) (n := 12) h1 (by omega)
  have r3 := tk_rng (s := tkS s1 12) (n := 5) h2 (by omega)
  have h3 := tkS_ok (s := tkS s1 12) (n := 5) h2 (by omega)
  have key : ∃ k, atI [D.int 0, D.int 1, D.int 8, D.int 40, D.int (tk s1 12)] (tk (tkS s1 12) 5) = some (.int k) ∧ 0 ≤ k ∧ k ≤ 40 := by
    generalize tk (tkS s1 12) 5 = t at r3
    have : t = 0 ∨ t = 1 ∨ t = 2 ∨ t = 3 ∨ t = 4 := by omega
    rcases this with rfl | rfl | rfl | rfl | rfl
    · exact ⟨0, rfl, by decide, by decide⟩
    · exact ⟨1, rfl, by decide, by decide⟩
    · exact ⟨8, rfl, by decide, by decide⟩
    · exact ⟨40, rfl, by decide, by decide⟩
    · exact ⟨tk s1 12, rfl, by omega, by omega⟩
  obtain ⟨k, ek, k1, k2⟩ := key
  obtain ⟨ws, s4, hw, hl, h4, e4⟩ := names_of cl h3 k.toNat [.d (.int n), .d (.int k), .em, .em] [4] 4 (fun s' d => rfl) (by omega)
  obtain ⟨p, s5, hp, h5, e5⟩ := name_ex cl h4
  obtain ⟨q, s6, hq, h6, e6⟩ := name_ex cl h5
  obtain ⟨as, s7, a1, a2, a3, h7, e7⟩ := answers_ex cl h6 n1 n2
  obtain ⟨sub, s8, b1, b2, h8, e8⟩ := names_ex cl h7
  have hsz : (intsD 0 k.toNat).length < sizeLine := by
    have : (intsD 0 k.toNat).length = k.toNat := by simp [intsD]
    rw [this]
    have : (41 : Nat) < sizeLine := by decide
    omega
  have hr : -4611686018427387904 ≤ k ∧ k < 4611686018427387904 := by omega
  refine ⟨⟨n, p, q, as, sub, ws⟩, s8, ⟨n1, n2, hp, hq, ⟨a1, a2, a3⟩, ⟨b1, b2⟩, ⟨hw, by show ws.length ≤ 40; omega⟩⟩, h8, ?_⟩
  simp only [bg, List.cons_append, List.nil_append] at e1 e4 e5 e6 e7 e8
  simp [f_law_fields, b_law_fields, bg, e1, takeE cl h1 d12, takeE cl h2 d5, (by decide : 5 ≤ sizeLine), (by decide : 6 ≤ sizeLine), ek, hr, hsz, e4, e5, e6, e7, e8, postP, fdL]
end G00

namespace G00
open PySem PySem.Spec PyProof.Rows L2 FD
theorem is_number_ok {n : Int} (cl : Nat → Addr) (h1 : 1 ≤ n) (h2 : n ≤ NN) : f_is_number cl [.d (.int n)] = some (.ret (.d (.bl true)) [.d (.int n)]) := by
  have i1 : oIsi2 (.int n) (.raw (.ty "int")) = some (.bl true) := rfl
  have i2 : oIsi2 (.int n) (.raw (.ty "bool")) = some (.bl false) := rfl
  simp [f_is_number, b_is_number, i1, i2, h1, (by exact h2 : n ≤ 1000000000000000000000000000000), postP]
def sq (b : Bool) (ds : List D) : D := if b then .lst ds else .tup ds
/-- one's own list, or data -/
def ow (o b : Bool) (ds : List D) : T := if o then .lst ds else .d (sq b ds)
theorem ow_top (o b : Bool) (ds : List D) : ∃ b', T.top (ow o b ds) = some (sq b' ds) ∧ ow o b ds ≠ .em := by
  cases o
  · exact ⟨b, rfl, fun h => nomatch h⟩
  · exact ⟨true, rfl, fun h => nomatch h⟩
@[simp] theorem postP_ow (o b : Bool) (ds : List D) (ps γ : List T) : postP (ow o b ds :: ps) (ow o b ds :: γ) = ow o b ds :: postP ps γ := by cases o <;> rfl
@[simp] theorem toD_ow (o b : Bool) (ds : List D) : T.toD (ow o b ds) = some (sq (o || b) ds) := by cases o <;> simp [ow, sq]
@[simp] theorem top_ow (o b : Bool) (ds : List D) : T.top (ow o b ds) = some (sq (o || b) ds) := by cases o <;> simp [ow, sq]
theorem are_names_ok {ws : List (List Nat)} {m : Int} (o b : Bool) (cl : Nat → Addr) (h : ∀ w ∈ ws, okW w) (hl : (ws.length : Int) ≤ m) (hm : m ≤ 40) : f_are_names cl [ow o b (nL ws), .d (.int m)] = some (.ret (.d (.bl true)) [ow o b (nL ws), .d (.int m)]) := by
  obtain ⟨b1, htop, hne⟩ := ow_top o b (nL ws)
  have i1 : oIsiT ["list", "tuple"] (sq b1 (nL ws)) = some (.bl true) := by cases b1 <;> rfl
  have hlt : ws.length < sizeLine := by have : (41 : Nat) < sizeLine := by decide
                                        omega
  have hn : ¬ m < (ws.length : Int) := by omega
  have hlc := lcP_mapT (enc := fun w : List Nat => D.str (wd w)) (g := gN 2) (f := pCall (f_is_name cl) (pCons (pVar 2) pNil)) (γ := [ow o b (nL ws), .d (.int m), .em]) (fun _ => .bl true) ws (fun w hw => ⟨[ow o b (nL ws), .d (.int m), .d (.str (wd w))], rfl, by simp [is_name_ok cl (h w hw)]⟩)
  obtain ⟨bs, e1, e2⟩ := allB_true (xs := ws.map fun _ => D.bl true) (fun x hx => by simp at hx; exact hx.2.symm)
  have hw : walkD (sq b1 (nL ws)) = some (ws.map fun w : List Nat => D.str (wd w)) := by cases b1 <;> rfl
  have hln : oLen (sq b1 (nL ws)) = some (.int (ws.length : Nat)) := by cases b1 <;> simp [sq, oLen, nL_len]
  simp [f_are_names, b_are_names, htop, i1, hln, hn, hw, hlt, hlc, oAll, e1, e2, postP]
theorem are_answers_ok {as : List Int} {n : Int} (o b : Bool) (cl : Nat → Addr) (h0 : as.Nodup) (h : ∀ a ∈ as, 1 ≤ a ∧ a ≤ NN ∧ a ≠ n) (hl : as.length ≤ 8) : f_are_answers cl [ow o b (iL as), .d (.int n)] = some (.ret (.d (.bl true)) [ow o b (iL as), .d (.int n)]) := by
  obtain ⟨b1, htop, hne⟩ := ow_top o b (iL as)
  have i1 : oIsiT ["list", "tuple"] (sq b1 (iL as)) = some (.bl true) := by cases b1 <;> rfl
  have hlt : as.length < sizeLine := by have : (41 : Nat) < sizeLine := by decide
                                        omega
  have hn : ¬ (8 : Int) < (as.length : Int) := by omega
  have hlc := lcP_mapT (enc := fun a : Int => D.int a) (g := gN 2) (f := pCall (f_is_number cl) (pCons (pVar 2) pNil)) (γ := [ow o b (iL as), .d (.int n), .em]) (fun _ => .bl true) as (fun a ha => ⟨[ow o b (iL as), .d (.int n), .d (.int a)], rfl, by simp [is_number_ok cl (h a ha).1 (h a ha).2.1]⟩)
  obtain ⟨bs, e1, e2⟩ := allB_true (xs := as.map fun _ => D.bl true) (fun x hx => by simp at hx; exact hx.2.symm)
  have hw : walkD (sq b1 (iL as)) = some (as.map fun a : Int => D.int a) := by cases b1 <;> rfl
  have hln : oLen (sq b1 (iL as)) = some (.int (as.length : Nat)) := by cases b1 <;> simp [sq, oLen, iL_len]
  have hni : oNotIn (.int n) (sq b1 (iL as)) = some (.bl true) := by
    have hnm : ¬ n ∈ as := fun z => (h n z).2.2 rfl
    have h2 : ((as.map D.int).all D.flat) = true := by simp [D.flat]
    cases b1 <;> (simp only [sq, oNotIn, items]; unfold iL; simp only [if_true, if_false, Bool.false_eq_true]; rw [if_pos ⟨rfl, h2⟩, any_ints]; simp [hnm])
  have hls : oLenSet (sq b1 (iL as)) = some (.int (as.length : Nat)) := by
    have hi : allI (iL as) = some as := by unfold iL; exact allI_map as
    have hd : dcount as = as.length := by
      unfold dcount
      rw [firstMet_nodup as h0 _ (Nat.le_refl _), List.take_length]
    have hs : as.length < 60 := by omega
    cases b1
    · simp [sq, oLenSet, hi, h0, hs]
    · simp [sq, oLenSet, hi, hd, hs]
  simp [f_are_answers, b_are_answers, htop, i1, hln, hn, hw, hlt, hlc, oAll, e1, e2, hni, hls, postP]
end G00

namespace G00
open PySem PySem.Spec PyProof.Rows L2 FD
theorem wrong_field_ok {f : Fd} (cl : Nat → Addr) (o1 b1 b2 o3 b3 : Bool) (h : okF f) : f_wrong_field cl [.d (.int f.n), .d (.str (wd f.p)), .d (.str (wd f.q)), ow o1 b1 (iL f.as), .d (sq b2 (nL f.sub)), ow o3 b3 (nL f.ws)] = some (.ret (.d .non) [.d (.int f.n), .d (.str (wd f.p)), .d (.str (wd f.q)), ow o1 b1 (iL f.as), .d (sq b2 (nL f.sub)), ow o3 b3 (nL f.ws)]) := by
  obtain ⟨h1, h2, h3, h4, ⟨h5, h6, h7⟩, ⟨h8, h9⟩, ⟨ha, hb⟩⟩ := h
  have a1 := are_answers_ok o1 b1 cl h5 h6 h7
  have a2 := are_names_ok false b2 cl h8 (by omega : (f.sub.length : Int) ≤ 8) (by omega)
  have a3 := are_names_ok o3 b3 cl ha (by omega : (f.ws.length : Int) ≤ 40) (by omega)
  cases o1 <;> cases o3 <;> simp only [ow, if_true, if_false, Bool.false_eq_true] at a1 a2 a3 ⊢ <;> simp [f_wrong_field, b_wrong_field, is_number_ok cl h1 h2, is_name_ok cl h3, is_name_ok cl h4, a1, a2, a3, postP]
def lN : List Str := ["number", "person", "house", "answers", "subject", "words", "sender"]
def sender (f : Fd) : Str := wd f.p ++ Str.ofString " at " ++ wd f.q
def lD (f : Fd) : List D := [.int f.n, .str (wd f.p), .str (wd f.q), .tup (iL f.as), .tup (nL f.sub), .tup (nL f.ws), .str (sender f)]
theorem init_ok {f : Fd} (cl : Nat → Addr) (o1 b1 b2 o3 b3 : Bool) (h : okF f) : f_Letter_init cl [.obj (cl 3) [] [], .d (.int f.n), .d (.str (wd f.p)), .d (.str (wd f.q)), ow o1 b1 (iL f.as), .d (sq b2 (nL f.sub)), ow o3 b3 (nL f.ws)] = some (.ret (.d .non) [.obj (cl 3) lN ((lD f).map .d), .d (.int f.n), .d (.str (wd f.p)), .d (.str (wd f.q)), ow o1 b1 (iL f.as), .d (sq b2 (nL f.sub)), ow o3 b3 (nL f.ws)]) := by
  have t1 : oTuple (sq b1 (iL f.as)) = some (.tup (iL f.as)) := by cases b1 <;> rfl
  have t2 : oTuple (sq b2 (nL f.sub)) = some (.tup (nL f.sub)) := by cases b2 <;> rfl
  have t3 : oTuple (sq b3 (nL f.ws)) = some (.tup (nL f.ws)) := by cases b3 <;> rfl
  obtain ⟨_, _, ⟨_, p2, _⟩, ⟨_, q2, _⟩, _⟩ := id h
  have z1 : (wd f.p).length = f.p.length := by simp [wd, Str.length]
  have z2 : (wd f.q).length = f.q.length := by simp [wd, Str.length]
  have z3 : (Str.ofString " at ").length = 4 := by decide
  have lap : ∀ a b : Str, (a ++ b).length = a.length + b.length := fun a b => by
    show (a.cps ++ b.cps).size = _
    simp [Str.length]
  have zz : (100 : Nat) < sizeLine := by decide
  have le0 : Str.empty ++ wd f.p = wd f.p := by
    show Str.mk (#[] ++ (wd f.p).cps) = _
    simp
  have le00 : Str.empty.length = 0 := rfl
  have y1 : f.p.length ≤ sizeLine := by omega
  have y2 : f.q.length ≤ sizeLine := by omega
  have y3 : f.p.length + 4 ≤ sizeLine := by omega
  have y4 : f.p.length + 4 + f.q.length ≤ sizeLine := by omega
  have w0 := wrong_field_ok cl o1 b1 b2 o3 b3 h
  cases o1 <;> cases o3 <;> simp only [ow, if_true, if_false, Bool.false_eq_true] at w0 ⊢ <;> simp (config := { decide := true }) [f_Letter_init, b_Letter_init, w0, t1, t2, t3, sFldO, putN, putTs, pJs, oFmt, postP, lN, lD, z1, z2, z3, lap, le0, le00, y1, y2, y3, y4, sender]
end G00

namespace G00
open PySem PySem.Spec PyProof.Rows L2 FD
theorem iL_sq (as : List Int) : D.lst (iL as) = sq true (iL as) := rfl
theorem nL_sq (ws : List (List Nat)) : D.lst (nL ws) = sq true (nL ws) := rfl
theorem initL {f : Fd} (cl : Nat → Addr) (h : okF f) : f_Letter_init cl [.obj (cl 3) [] [], .d (.int f.n), .d (.str (wd f.p)), .d (.str (wd f.q)), .d (.lst (iL f.as)), .d (.lst (nL f.sub)), .d (.lst (nL f.ws))] = some (.ret (.d .non) [.obj (cl 3) lN ((lD f).map .d), .d (.int f.n), .d (.str (wd f.p)), .d (.str (wd f.q)), .d (.lst (iL f.as)), .d (.lst (nL f.sub)), .d (.lst (nL f.ws))]) := init_ok cl false true true false true h
theorem letter_ok {f : Fd} (cl : Nat → Addr) (h : okF f) : f_law_letter cl [.d (.lst (fdL f))] = some (.ret (.obj (cl 3) lN ((lD f).map .d)) [.d (.lst (fdL f))]) := by
  have a3 : ∀ (a b c d : D) (r : List D), atI (a :: b :: c :: d :: r) 3 = some d := fun a b c d r => atI_nat (j := 3) (xs := a :: b :: c :: d :: r) rfl
  have a4 : ∀ (a b c d e : D) (r : List D), atI (a :: b :: c :: d :: e :: r) 4 = some e := fun a b c d e r => atI_nat (j := 4) (xs := a :: b :: c :: d :: e :: r) rfl
  have a5 : ∀ (a b c d e g : D) (r : List D), atI (a :: b :: c :: d :: e :: g :: r) 5 = some g := fun a b c d e g r => atI_nat (j := 5) (xs := a :: b :: c :: d :: e :: g :: r) rfl
  simp [f_law_letter, b_law_letter, fdL, eMake, makeF, holes, weave, a3, a4, a5, initL cl h, postP]
end G00

namespace G00
open PySem PySem.Spec PyProof.Rows L2 FD
theorem wd_inj {a b : List Nat} : wd a = wd b ↔ a = b := ⟨fun h => by
  have : a.toArray = b.toArray := Str.mk.inj h
  simpa using this, fun h => h ▸ rfl⟩
theorem eqv_ints : ∀ (as bs : List Int), PyData.eqvAll (D.pyA (iL as)) (D.pyA (iL bs)) = decide (as = bs)
  | [], [] => rfl
  | [], b :: bs => rfl
  | a :: as, [] => rfl
  | a :: as, b :: bs => by
    have ih := eqv_ints as bs
    show ((a == b) && PyData.eqvAll (D.pyA (iL as)) (D.pyA (iL bs))) = _
    rw [ih]
    by_cases h : a = b
    · subst h; simp
    · simp [h]
theorem eqv_names : ∀ (as bs : List (List Nat)), PyData.eqvAll (D.pyA (nL as)) (D.pyA (nL bs)) = decide (as = bs)
  | [], [] => rfl
  | [], b :: bs => rfl
  | a :: as, [] => rfl
  | a :: as, b :: bs => by
    have ih := eqv_names as bs
    show ((wd a == wd b) && PyData.eqvAll (D.pyA (nL as)) (D.pyA (nL bs))) = _
    rw [ih]
    by_cases h : a = b
    · subst h; simp
    · have h' : ¬ wd a = wd b := fun e => h (wd_inj.mp e)
      simp [h, h']
theorem pureI : ∀ as : List Int, D.pureA (iL as) = true
  | [] => rfl
  | a :: as => by show (true && D.pureA (iL as)) = true; rw [pureI as]; rfl
theorem layI : ∀ as : List Int, PyData.canLayAll0 (D.pyA (iL as)) = true
  | [] => rfl
  | a :: as => by show (PyData.canLay0 (.int a) && PyData.canLayAll0 (D.pyA (iL as))) = true; rw [layI as]; rfl
theorem depI : ∀ as : List Int, PyData.depthAll (D.pyA (iL as)) ≤ 1
  | [] => by decide
  | a :: as => by
    have := depI as
    show max (PyData.depth (.int a)) (PyData.depthAll (D.pyA (iL as))) ≤ 1
    have h : PyData.depth (.int a) ≤ 1 := by unfold PyData.depth; omega
    omega
theorem pureN : ∀ as : List (List Nat), D.pureA (nL as) = true
  | [] => rfl
  | a :: as => by show (true && D.pureA (nL as)) = true; rw [pureN as]; rfl
theorem layN : ∀ as : List (List Nat), (∀ w ∈ as, okW w) → PyData.canLayAll0 (D.pyA (nL as)) = true
  | [], _ => rfl
  | a :: as, h => by
    have h1 := (h a (by simp)).2.1
    have hl : (wd a).length = a.length := by simp [wd, Str.length]
    have hz : (9 : Nat) < sizeLine := by decide
    have e : PyData.canLay0 (.str (wd a)) = true := by
      unfold PyData.canLay0 PyData.strOk
      simp [wd]
      exact fun x hx => by have := (h a (by simp)).2.2 x hx; omega
    show (PyData.canLay0 (.str (wd a)) && PyData.canLayAll0 (D.pyA (nL as))) = true
    rw [layN as fun w hw => h w (by simp [hw]), e]; rfl
theorem depN : ∀ as : List (List Nat), PyData.depthAll (D.pyA (nL as)) ≤ 1
  | [] => by decide
  | a :: as => by
    have := depN as
    show max (PyData.depth (.str (wd a))) (PyData.depthAll (D.pyA (nL as))) ≤ 1
    have h : PyData.depth (.str (wd a)) ≤ 1 := by unfold PyData.depth; omega
    omega
theorem shpI (as : List Int) (b : Bool) : (sq b (iL as)).shaped = true := by
  have h := depI as
  cases b
  · show (D.pureA (iL as) && (PyData.canLayAll0 (D.pyA (iL as)) && decide (PyData.depthAll (D.pyA (iL as)) + 1 ≤ 64))) = true
    rw [pureI, layI, decide_eq_true (by omega)]; rfl
  · show (D.pureA (iL as) && (PyData.canLayAll0 (D.pyA (iL as)) && decide (PyData.depthAll (D.pyA (iL as)) + 1 ≤ 64))) = true
    rw [pureI, layI, decide_eq_true (by omega)]; rfl
theorem shpN (as : List (List Nat)) (b : Bool) (hw : ∀ w ∈ as, okW w) : (sq b (nL as)).shaped = true := by
  have h := depN as
  cases b
  · show (D.pureA (nL as) && (PyData.canLayAll0 (D.pyA (nL as)) && decide (PyData.depthAll (D.pyA (nL as)) + 1 ≤ 64))) = true
    rw [pureN, layN as hw, decide_eq_true (by omega)]; rfl
  · show (D.pureA (nL as) && (PyData.canLayAll0 (D.pyA (nL as)) && decide (PyData.depthAll (D.pyA (nL as)) + 1 ≤ 64))) = true
    rw [pureN, layN as hw, decide_eq_true (by omega)]; rfl
theorem eqI (as bs : List Int) (b : Bool) : oEq (sq b (iL as)) (sq b (iL bs)) = some (.bl (decide (as = bs))) := by
  have e : D.eqv (sq b (iL as)) (sq b (iL bs)) = decide (as = bs) := by
    rw [← eqv_ints]
    cases b <;> rfl
  have s0 : sEq (sq b (iL as)) (sq b (iL bs)) = none := by cases b <;> rfl
  unfold oEq
  rw [s0]
  simp only [shpI, and_self, if_true, e]
theorem eqN (as bs : List (List Nat)) (b : Bool) (h1 : ∀ w ∈ as, okW w) (h2 : ∀ w ∈ bs, okW w) : oEq (sq b (nL as)) (sq b (nL bs)) = some (.bl (decide (as = bs))) := by
  have e : D.eqv (sq b (nL as)) (sq b (nL bs)) = decide (as = bs) := by
    rw [← eqv_names]
    cases b <;> rfl
  have s0 : sEq (sq b (nL as)) (sq b (nL bs)) = none := by cases b <;> rfl
  unfold oEq
  rw [s0]
  simp only [shpN as b h1, shpN bs b h2, and_self, if_true, e]
theorem oEqi (a b : Int) : oEq (.int a) (.int b) = some (.bl (decide (a = b))) := rfl
theorem oEqs (a b : List Nat) : oEq (.str (wd a)) (.str (wd b)) = some (.bl (decide (a = b))) := by
  show some (D.bl (decide (wd a = wd b))) = _
  simp only [wd_inj]
def eqF (f g : Fd) : Prop := f.n = g.n ∧ f.p = g.p ∧ f.q = g.q ∧ f.as = g.as ∧ f.sub = g.sub ∧ f.ws = g.ws
instance (f g : Fd) : Decidable (eqF f g) := by unfold eqF; infer_instance
theorem letter_eq {f g : Fd} (cl : Nat → Addr) (hf : okF f) (hg : okF g) : f_Letter_eq cl [.d (.ins (cl 3) lN (lD f)), .d (.ins (cl 3) lN (lD g))] = some (.ret (.d (.bl (decide (eqF f g)))) [.d (.ins (cl 3) lN (lD f)), .d (.ins (cl 3) lN (lD g))]) := by
  have ti : oEq (.tup (iL f.as)) (.tup (iL g.as)) = some (.bl (decide (f.as = g.as))) := eqI f.as g.as false
  have t1 : oEq (.tup (nL f.sub)) (.tup (nL g.sub)) = some (.bl (decide (f.sub = g.sub))) := eqN f.sub g.sub false hf.2.2.2.2.2.1.1 hg.2.2.2.2.2.1.1
  have t2 : oEq (.tup (nL f.ws)) (.tup (nL g.ws)) = some (.bl (decide (f.ws = g.ws))) := eqN f.ws g.ws false hf.2.2.2.2.2.2.1 hg.2.2.2.2.2.2.1
  have ei := oEqi f.n g.n
  have ep := oEqs f.p g.p
  have eq := oEqs f.q g.q
  have hi : oIsiO (cl 3) (.ins (cl 3) lN (lD g)) (.raw (.ref (cl 3))) = some (.bl true) := by simp [oIsiO, oIsiC]
  have fl : ∀ (i j : Nat) (x : D) (u : Fd) (γ : List T), γ[j]? = some (.d (.ins (cl 3) lN (lD u))) → (lD u)[i]? = some x → pFld (cl 3) lN i (pVar j) γ = some x := fun i j x u γ h1 h2 => by
    simp [pFld, h1, h2]
  have F0 : ∀ (i : Nat) (x : D), (lD f)[i]? = some x → pFld (cl 3) lN i (pVar 0) [.d (.ins (cl 3) lN (lD f)), .d (.ins (cl 3) lN (lD g))] = some x := fun i x h => fl i 0 x f _ rfl h
  have F1 : ∀ (i : Nat) (x : D), (lD g)[i]? = some x → pFld (cl 3) lN i (pVar 1) [.d (.ins (cl 3) lN (lD f)), .d (.ins (cl 3) lN (lD g))] = some x := fun i x h => fl i 1 x g _ rfl h
  have hl : (["number", "person", "house", "answers", "subject", "words", "sender"] : List Str) = lN := rfl
  unfold f_Letter_eq b_Letter_eq
  rw [hl]
  by_cases c1 : f.n = g.n
  case neg =>
    have hd : decide (eqF f g) = false := decide_eq_false fun z => c1 z.1
    rw [hd]
    rw [decide_eq_false c1] at ei
    simp [hi, F0 0 _ rfl, F1 0 _ rfl, -oEq_app, ei, postP]
  rw [decide_eq_true c1] at ei
  by_cases c2 : f.p = g.p
  case neg =>
    have hd : decide (eqF f g) = false := decide_eq_false fun z => c2 z.2.1
    rw [hd]
    rw [decide_eq_false c2] at ep
    simp [hi, F0 0 _ rfl, F1 0 _ rfl, F0 1 _ rfl, F1 1 _ rfl, -oEq_app, ei, ep, postP]
  rw [decide_eq_true c2] at ep
  by_cases c3 : f.q = g.q
  case neg =>
    have hd : decide (eqF f g) = false := decide_eq_false fun z => c3 z.2.2.1
    rw [hd]
    rw [decide_eq_false c3] at eq
    simp [hi, F0 0 _ rfl, F1 0 _ rfl, F0 1 _ rfl, F1 1 _ rfl, F0 2 _ rfl, F1 2 _ rfl, -oEq_app, ei, ep, eq, postP]
  rw [decide_eq_true c3] at eq
  by_cases c4 : f.as = g.as
  case neg =>
    have hd : decide (eqF f g) = false := decide_eq_false fun z => c4 z.2.2.2.1
    rw [hd]
    rw [decide_eq_false c4] at ti
    simp [hi, F0 0 _ rfl, F1 0 _ rfl, F0 1 _ rfl, F1 1 _ rfl, F0 2 _ rfl, F1 2 _ rfl, F0 3 _ rfl, F1 3 _ rfl, -oEq_app, ei, ep, eq, ti, postP]
  rw [decide_eq_true c4] at ti
  by_cases c5 : f.sub = g.sub
  case neg =>
    have hd : decide (eqF f g) = false := decide_eq_false fun z => c5 z.2.2.2.2.1
    rw [hd]
    rw [decide_eq_false c5] at t1
    simp [hi, F0 0 _ rfl, F1 0 _ rfl, F0 1 _ rfl, F1 1 _ rfl, F0 2 _ rfl, F1 2 _ rfl, F0 3 _ rfl, F1 3 _ rfl, F0 4 _ rfl, F1 4 _ rfl, -oEq_app, ei, ep, eq, ti, t1, postP]
  rw [decide_eq_true c5] at t1
  by_cases c6 : f.ws = g.ws
  case neg =>
    have hd : decide (eqF f g) = false := decide_eq_false fun z => c6 z.2.2.2.2.2
    rw [hd]
    rw [decide_eq_false c6] at t2
    simp [hi, F0 0 _ rfl, F1 0 _ rfl, F0 1 _ rfl, F1 1 _ rfl, F0 2 _ rfl, F1 2 _ rfl, F0 3 _ rfl, F1 3 _ rfl, F0 4 _ rfl, F1 4 _ rfl, F0 5 _ rfl, F1 5 _ rfl, -oEq_app, ei, ep, eq, ti, t1, t2, postP]
  rw [decide_eq_true c6] at t2
  have hd : decide (eqF f g) = true := decide_eq_true ⟨c1, c2, c3, c4, c5, c6⟩
  rw [hd]
  simp [hi, F0 0 _ rfl, F1 0 _ rfl, F0 1 _ rfl, F1 1 _ rfl, F0 2 _ rfl, F1 2 _ rfl, F0 3 _ rfl, F1 3 _ rfl, F0 4 _ rfl, F1 4 _ rfl, F0 5 _ rfl, F1 5 _ rfl, -oEq_app, ei, ep, eq, ti, t1, t2, postP]
end G00

namespace G00
open PySem PySem.Spec PyProof.Rows L2 FD
/-- what is no number -/
def badN (x : D) : Prop := (∃ i : Int, x = .int i ∧ (i < 1 ∨ NN < i)) ∨ (∃ b, x = .bl b) ∨ (∃ s, x = .str s) ∨ x = .non ∨ (∃ ds, x = .lst ds)
theorem is_number_bad {x : D} (cl : Nat → Addr) (h : badN x) : f_is_number cl [.d x] = some (.ret (.d (.bl false)) [.d x]) := by
  have B : ∀ (y : D) (b : Bool), oIsi2 y (.raw (.ty "int")) = some (.bl b) → b = false → f_is_number cl [.d y] = some (.ret (.d (.bl false)) [.d y]) := fun y b e hb => by
    subst hb
    simp [f_is_number, b_is_number, e, postP]
  rcases h with ⟨i, rfl, hi⟩ | ⟨b, rfl⟩ | ⟨s, rfl⟩ | rfl | ⟨ds, rfl⟩
  · have i1 : oIsi2 (.int i) (.raw (.ty "int")) = some (.bl true) := rfl
    have i2 : oIsi2 (.int i) (.raw (.ty "bool")) = some (.bl false) := rfl
    by_cases h1 : 1 ≤ i
    · have h2 : ¬ i ≤ 1000000000000000000000000000000 := by
        rcases hi with z | z
        · omega
        · exact fun y => absurd z (Int.not_lt.mpr y)
      simp [f_is_number, b_is_number, i1, i2, h1, h2, postP]
    · simp [f_is_number, b_is_number, i1, i2, h1, postP]
  · have i1 : oIsi2 (.bl b) (.raw (.ty "int")) = some (.bl true) := rfl
    have i2 : oIsi2 (.bl b) (.raw (.ty "bool")) = some (.bl true) := rfl
    simp [f_is_number, b_is_number, i1, i2, postP]
  · exact B _ _ rfl rfl
  · exact B _ _ rfl rfl
  · exact B _ _ rfl rfl
/-- no text at all -/
theorem is_name_no {x : D} (cl : Nat → Addr) (h : oIsi2 x (.raw (.ty "str")) = some (.bl false)) : f_is_name cl [.d x] = some (.ret (.d (.bl false)) [.d x]) := by
  simp [f_is_name, b_is_name, h, postP]
end G00

namespace G00
open PySem PySem.Spec PyProof.Rows L2 FD
theorem le_a' {c : Nat} (h : ¬ 97 ≤ c) : oLe (.str (Str.ofString "a")) (.str ⟨#[c]⟩) = some (.bl false) := by
  have e : (Str.ofString "a").cps.toList = [97] := by decide
  have : ([c] < [97]) := by rw [List.cons_lt_cons_iff]; exact .inl (by omega)
  simp only [oLe, e]
  rw [decide_eq_true this]
  rfl
theorem le_z' {c : Nat} (h : ¬ c ≤ 122) : oLe (.str ⟨#[c]⟩) (.str (Str.ofString "z")) = some (.bl false) := by
  have e : (Str.ofString "z").cps.toList = [122] := by decide
  have : ([122] < [c]) := by rw [List.cons_lt_cons_iff]; exact .inl (by omega)
  simp only [oLe, e]
  rw [decide_eq_true this]
  rfl
theorem allB_of {p : Nat → Bool} : ∀ cs : List Nat, FD.allB (cs.map fun c => D.bl (p c)) = some (cs.map p)
  | [] => rfl
  | c :: cs => by simp [FD.allB, allB_of cs]
theorem is_name_bad {cs : List Nat} (cl : Nat → Addr) (h : ¬ okW cs) (hl0 : cs.length ≤ 1000) : f_is_name cl [.d (.str (wd cs))] = some (.ret (.d (.bl false)) [.d (.str (wd cs))]) := by
  have hl : (wd cs).length = cs.length := by simp [wd, Str.length]
  have hz2 : cs.length ≤ sizeLine := by have : (1000 : Nat) ≤ sizeLine := by decide
                                        omega
  have hi : oIsi2 (.str (wd cs)) (.raw (.ty "str")) = some (.bl true) := by rfl
  by_cases h1 : 1 ≤ cs.length
  · have hle1 : oLe (.int 1) (.int (cs.length : Nat)) = some (.bl true) := by simp [oLe]; omega
    by_cases h2 : cs.length ≤ 8
    · have hle2 : oLe (.int (cs.length : Nat)) (.int 8) = some (.bl true) := by simp [oLe]; omega
      have hlt : cs.length < sizeLine := by have : (1000 : Nat) < sizeLine := by decide
                                            omega
      have hlc := lcP_mapT (enc := fun c : Nat => D.str ⟨#[c]⟩) (g := gN 1) (f := (pChain oLe oLe (pC (.str "a")) (pVar 1) (pC (.str "z")))) (γ := [.d (.str (wd cs)), .em]) (fun c => .bl ((decide (97 ≤ c) && decide (c ≤ 122)))) cs (fun c hc => ⟨[.d (.str (wd cs)), .d (.str ⟨#[c]⟩)], rfl, by
        by_cases a1 : 97 ≤ c
        · by_cases a2 : c ≤ 122
          · simp [le_a a1, le_z a2, a1, a2]
          · simp [le_a a1, le_z' a2, a1, a2]
        · simp [le_a' a1, a1]⟩)
      have hsg : FD.signs (wd cs) = cs.map fun c : Nat => D.str ⟨#[c]⟩ := by simp [FD.signs, wd]
      have e1 := allB_of (p := fun c => (decide (97 ≤ c) && decide (c ≤ 122))) cs
      have e2 : (cs.map fun c => (decide (97 ≤ c) && decide (c ≤ 122))).all id = false := by
        cases e : (cs.map fun c => (decide (97 ≤ c) && decide (c ≤ 122))).all id with
        | false => rfl
        | true =>
          refine absurd ⟨h1, h2, fun c hc => ?_⟩ h
          have := List.all_eq_true.mp e ((decide (97 ≤ c) && decide (c ≤ 122))) (List.mem_map.mpr ⟨c, hc, rfl⟩)
          simpa using this
      have eA : oAll (.lst (cs.map fun c => D.bl ((decide (97 ≤ c) && decide (c ≤ 122))))) = some (.bl false) := by
        show (FD.allB (cs.map fun c => D.bl (decide (97 ≤ c) && decide (c ≤ 122)))).map _ = _
        rw [e1, Option.map_some, e2]
      simp only [f_is_name, b_is_name]
      simp [hi, hl, hz2, hle1, hle2, walkD, hsg, hlc, hlt, oLen, eA, postP]
    · have hle2 : oLe (.int (cs.length : Nat)) (.int 8) = some (.bl false) := by simp [oLe]; omega
      simp [f_is_name, b_is_name, hi, hl, hz2, hle1, hle2, oLen, postP]
  · have hle1 : oLe (.int 1) (.int (cs.length : Nat)) = some (.bl false) := by simp [oLe]; omega
    simp [f_is_name, b_is_name, hi, hl, hz2, hle1, oLen, postP]
end G00

namespace G00
open PySem PySem.Spec PyProof.Rows L2 FD
theorem forS_exM {S : Type} (Γ : S → List T) (P : S → Prop) (ok : D → Prop) {g : D → List T → Option (List T)} {b : List T → Option O} (hb : ∀ s d, ok d → P s → ∃ s', (g d (Γ s)).bind b = some (.nx (Γ s')) ∧ P s') :
    ∀ ds s, (∀ d ∈ ds, ok d) → P s → ∃ s', forS g b ds (Γ s) = some (.nx (Γ s')) ∧ P s'
  | [], s, _, h => ⟨s, rfl, h⟩
  | d :: ds, s, hd, h => by
    obtain ⟨s1, e1, p1⟩ := hb s d (hd d (by simp)) h
    obtain ⟨s2, e2, p2⟩ := forS_exM Γ P ok hb ds s1 (fun d m => hd d (by simp [m])) p1
    refine ⟨s2, ?_, p2⟩
    unfold forS
    obtain ⟨γ1, g1, g2⟩ := Option.bind_eq_some_iff.mp e1
    rw [g1, Option.bind_some, g2, Option.bind_some]
    exact e2
theorem cut40 (ns : List Int) : FD.cutD (ns.map D.int) none (some 40) = (ns.map D.int).take 40 := by
  unfold FD.cutD
  have h1 : HT.sIx (ns.map D.int).length 0 none = 0 := rfl
  have h2 : HT.sIx (ns.map D.int).length (ns.map D.int).length (some 40) = min 40 ns.length := by
    simp [HT.sIx]
  rw [h1, h2]
  show ((ns.map D.int).drop 0).take (min 40 ns.length - 0) = _
  rw [List.drop_zero, Nat.sub_zero]
  by_cases h : 40 ≤ ns.length
  · rw [Nat.min_eq_left h]
  · rw [Nat.min_eq_right (by omega), List.take_of_length_le (by simp), List.take_of_length_le (by simp; omega)]
/-- what an enumerated number is -/
def okE (d : D) : Prop := ∃ (k : Nat) (i : Int), d = .tup [.int (k : Nat), .int i] ∧ k < 40
theorem okE_all (ns : List Int) : ∀ d ∈ enumD ((ns.map D.int).take 40), okE d := fun d hd => by
  rw [← List.map_take] at hd
  unfold enumD at hd
  obtain ⟨⟨x, k⟩, h1, rfl⟩ := List.mem_map.mp hd
  have h2 := List.mem_zipIdx h1
  have h3 : x ∈ (ns.take 40).map D.int := by rw [h2.2.2]; exact List.getElem_mem _
  obtain ⟨i, _, rfl⟩ := List.mem_map.mp h3
  refine ⟨k, i, rfl, ?_⟩
  have := h2.2.1
  simp at this
  omega
structure Bs where
  v : Int
  t4 : T
  t5 : T
theorem bag_ex {ns : List Int} {at_ : Int} (cl : Nat → Addr) (hz : ns.length ≤ 63) (h0 : 0 ≤ at_) (h1 : at_ ≤ 100) : ∃ s, okB s ∧ f_law_bag cl [.d (.lst (ns.map .int)), .d (.int at_)] = some (.ret (bg s) [.d (.lst (ns.map .int)), .d (.int at_)]) := by
  have hcell : ∃ c : Int, (pIf (pTest (pOp oLt (pVar 1) (pUn oLen (pVar 0)))) (pOp oIx (pVar 0) (pVar 1)) (pC (.int 0))) [.d (.lst (ns.map .int)), .d (.int at_), .em, .em, .em, .em] = some (.int c) := by
    by_cases hc : at_ < (ns.length : Nat)
    · obtain ⟨n, rfl⟩ := Int.eq_ofNat_of_zero_le h0
      have hn : n < ns.length := by omega
      refine ⟨ns[n], ?_⟩
      have e : atI (ns.map D.int) (n : Int) = some (D.int ns[n]) := atI_nat (by simp [hn])
      simp [hn, e]
    · exact ⟨0, by simp; omega⟩
  obtain ⟨c, hc⟩ := hcell
  obtain ⟨x, e1, p1⟩ := forS_exM (S := Bs) (fun x => [.d (.lst (ns.map .int)), .d (.int at_), .d (.int c), .d (.int x.v), x.t4, x.t5]) (fun x => 0 ≤ x.v ∧ x.v < 2147483563) okE (g := (gTp 2 (gCn (gN 4) (gCn (gN 5) gNl)))) (b := (sAsgD 3 (eP (pOp oMod (pUn oInt (pOp oAdd (pOp oAdd (pOp oAdd (pOp oMul (pVar 3) (pC (.int 50021))) (pOp oMod (pUn oInt (pVar 5)) (pC (.int 2147483563)))) (pOp oMul (pC (.int 37)) (pVar 4))) (pC (.int 5)))) (pC (.int 2147483563)))))) (fun x d hd hp => by
    obtain ⟨v, t4, t5⟩ := x
    obtain ⟨q1, q2⟩ := hp
    obtain ⟨k, i, rfl, hk⟩ := hd
    have m1 : mulOk v 50021 := lgMul ⟨by simp only at q1; omega, by simp only at q2; omega⟩ ⟨by decide, by decide⟩
    have m2 : mulOk 37 (k : Int) := lgMul ⟨by decide, by decide⟩ ⟨by omega, by omega⟩
    refine ⟨⟨(v * 50021 + i % 2147483563 + 37 * (k : Int) + 5) % 2147483563, .d (.int k), .d (.int i)⟩, ?_, Int.emod_nonneg _ (by decide), Int.emod_lt_of_pos _ (by decide)⟩
    simp [m1, m2]) (enumD ((ns.map D.int).take 40)) ⟨7129 * at_ + 613, .em, .em⟩ (okE_all ns) ⟨by show 0 ≤ 7129 * at_ + 613; omega, by show 7129 * at_ + 613 < 2147483563; omega⟩
  dsimp only at e1
  have m3 : mulOk 7129 at_ := lgMul ⟨by decide, by decide⟩ ⟨by omega, by omega⟩
  refine ⟨(if 1000000000000000000 ≤ (if c < 0 then -c else c) then (if c < 0 then -c else c) else 0, x.v), ⟨?_, p1.1, p1.2⟩, ?_⟩
  · show 0 ≤ (if 1000000000000000000 ≤ (if c < 0 then -c else c) then (if c < 0 then -c else c) else 0 : Int)
    split
    · split <;> omega
    · omega
  · simp at hc
    have hif : ∀ a : Int, (if 1000000000000000000 ≤ a then some (D.int a) else some (D.int 0)) = some (D.int (if 1000000000000000000 ≤ a then a else 0)) := fun a => by split <;> rfl
    simp [hif, (by decide : 2 ≤ sizeLine), f_law_bag, b_law_bag, hc, m3, cut40, e1, bg, postP]
end G00

namespace G00
open PySem PySem.Spec PyProof.Rows L2 FD
def N0 (cl : Nat → Addr) (x : D) (b : Bool) : Prop := f_is_number cl [.d x] = some (.ret (.d (.bl b)) [.d x])
def N1 (cl : Nat → Addr) (x : D) (b : Bool) : Prop := f_is_name cl [.d x] = some (.ret (.d (.bl b)) [.d x])
def N3 (cl : Nat → Addr) (x n : D) (b : Bool) : Prop := f_are_answers cl [.d x, .d n] = some (.ret (.d (.bl b)) [.d x, .d n])
def N4 (cl : Nat → Addr) (x : D) (m : Int) (b : Bool) : Prop := f_are_names cl [.d x, .d (.int m)] = some (.ret (.d (.bl b)) [.d x, .d (.int m)])
def nmK : Nat → Str
  | 0 => "number" | 1 => "person" | 2 => "house" | 3 => "answers" | 4 => "subject" | _ => "words"
/-- the k-th field is the first wrong one -/
def FW (cl : Nat → Addr) (x0 x1 x2 x3 x4 x5 : D) : Nat → Prop
  | 0 => N0 cl x0 false
  | 1 => N0 cl x0 true ∧ N1 cl x1 false
  | 2 => N0 cl x0 true ∧ N1 cl x1 true ∧ N1 cl x2 false
  | 3 => N0 cl x0 true ∧ N1 cl x1 true ∧ N1 cl x2 true ∧ N3 cl x3 x0 false
  | 4 => N0 cl x0 true ∧ N1 cl x1 true ∧ N1 cl x2 true ∧ N3 cl x3 x0 true ∧ N4 cl x4 8 false
  | 5 => N0 cl x0 true ∧ N1 cl x1 true ∧ N1 cl x2 true ∧ N3 cl x3 x0 true ∧ N4 cl x4 8 true ∧ N4 cl x5 40 false
  | _ => False
theorem wrong_field_bad {cl : Nat → Addr} {x0 x1 x2 x3 x4 x5 : D} {k : Nat} (h : FW cl x0 x1 x2 x3 x4 x5 k) : f_wrong_field cl [.d x0, .d x1, .d x2, .d x3, .d x4, .d x5] = some (.ret (.d (.str (nmK k))) [.d x0, .d x1, .d x2, .d x3, .d x4, .d x5]) := by
  match k, h with
  | 0, h => have h : N0 cl x0 false := h; simp only [N0, N1, N3, N4] at h; simp [f_wrong_field, b_wrong_field, h, postP, nmK]
  | 1, h => have h : N0 cl x0 true ∧ N1 cl x1 false := h; simp only [N0, N1, N3, N4] at h; simp [f_wrong_field, b_wrong_field, h.1, h.2, postP, nmK]
  | 2, h => have h : N0 cl x0 true ∧ N1 cl x1 true ∧ N1 cl x2 false := h; simp only [N0, N1, N3, N4] at h; simp [f_wrong_field, b_wrong_field, h.1, h.2.1, h.2.2, postP, nmK]
  | 3, h => have h : N0 cl x0 true ∧ N1 cl x1 true ∧ N1 cl x2 true ∧ N3 cl x3 x0 false := h; simp only [N0, N1, N3, N4] at h; simp [f_wrong_field, b_wrong_field, h.1, h.2.1, h.2.2.1, h.2.2.2, postP, nmK]
  | 4, h => have h : N0 cl x0 true ∧ N1 cl x1 true ∧ N1 cl x2 true ∧ N3 cl x3 x0 true ∧ N4 cl x4 8 false := h; simp only [N0, N1, N3, N4] at h; simp [f_wrong_field, b_wrong_field, h.1, h.2.1, h.2.2.1, h.2.2.2.1, h.2.2.2.2, postP, nmK]
  | 5, h => have h : N0 cl x0 true ∧ N1 cl x1 true ∧ N1 cl x2 true ∧ N3 cl x3 x0 true ∧ N4 cl x4 8 true ∧ N4 cl x5 40 false := h; simp only [N0, N1, N3, N4] at h; simp [f_wrong_field, b_wrong_field, h.1, h.2.1, h.2.2.1, h.2.2.2.1, h.2.2.2.2.1, h.2.2.2.2.2, postP, nmK]
  | k + 6, h => exact h.elim
theorem init_bad {cl : Nat → Addr} {x0 x1 x2 x3 x4 x5 : D} {k : Nat} (h : FW cl x0 x1 x2 x3 x4 x5 k) : f_Letter_init cl [.obj (cl 3) [] [], .d x0, .d x1, .d x2, .d x3, .d x4, .d x5] = some (.exc (cl 2) [("field", .str (nmK k))] [.obj (cl 3) [] [], .d x0, .d x1, .d x2, .d x3, .d x4, .d x5]) := by
  simp [f_Letter_init, b_Letter_init, wrong_field_bad h, sRaise, postP]
/-- a row of fields, one's own or not -/
def rw_ (b : Bool) (xs : List D) : T := if b then .lst xs else .d (.lst xs)
theorem a3 : ∀ (a b c d : D) (r : List D), atI (a :: b :: c :: d :: r) 3 = some d := fun a b c d r => atI_nat (j := 3) (xs := a :: b :: c :: d :: r) rfl
theorem a4 : ∀ (a b c d e : D) (r : List D), atI (a :: b :: c :: d :: e :: r) 4 = some e := fun a b c d e r => atI_nat (j := 4) (xs := a :: b :: c :: d :: e :: r) rfl
theorem a5 : ∀ (a b c d e g : D) (r : List D), atI (a :: b :: c :: d :: e :: g :: r) 5 = some g := fun a b c d e g r => atI_nat (j := 5) (xs := a :: b :: c :: d :: e :: g :: r) rfl
theorem cl_ne {cl : Nat → Addr} (hc : okCl cl) : cl 0 ≠ cl 1 ∧ cl 0 ≠ cl 2 ∧ cl 1 ≠ cl 2 := by
  unfold okCl at hc
  simp at hc
  exact ⟨hc.1.1, hc.1.2.1, hc.2.1.1⟩
theorem refused_bad {cl : Nat → Addr} (hc : okCl cl) {x0 x1 x2 x3 x4 x5 : D} {k : Nat} (h : FW cl x0 x1 x2 x3 x4 x5 k) : f_law_refused cl [.lst [x0, x1, x2, x3, x4, x5]] = some (.ret (.d (.str (nmK k))) [.lst [x0, x1, x2, x3, x4, x5]]) := by
  obtain ⟨c1, c2, c3⟩ := cl_ne hc
  have e0 : (cl 2 == cl 0) = false := beq_eq_false_iff_ne.mpr c2.symm
  have e1 : (cl 2 == cl 1) = false := beq_eq_false_iff_ne.mpr c3.symm
  simp [f_law_refused, b_law_refused, a3, a4, a5, sNoX, sTryH, sExprX, xMake, holes, weave, makeX, callX, init_bad h, hRun, List.lookup, e0, e1, hAsg, oCl, postP]
theorem caught_bad {cl : Nat → Addr} (hc : okCl cl) {x0 x1 x2 x3 x4 x5 : D} {k : Nat} (h : FW cl x0 x1 x2 x3 x4 x5 k) : f_law_caught cl [.lst [x0, x1, x2, x3, x4, x5]] = some (.ret (.d (.bl true)) [.lst [x0, x1, x2, x3, x4, x5]]) := by
  obtain ⟨c1, c2, c3⟩ := cl_ne hc
  have e0 : (cl 2 == cl 0) = false := beq_eq_false_iff_ne.mpr c2.symm
  have e1 : (cl 2 == cl 1) = false := beq_eq_false_iff_ne.mpr c3.symm
  simp [f_law_caught, b_law_caught, a3, a4, a5, sNoX, sTryH, sExprX, xMake, holes, weave, makeX, callX, init_bad h, hRun, List.lookup, e0, e1, oCl, postP]
theorem refused_ok {f : Fd} {cl : Nat → Addr} (h : okF f) : f_law_refused cl [.d (.lst (fdL f))] = some (.ret (.d .non) [.d (.lst (fdL f))]) := by
  have hi := initL cl h
  simp [f_law_refused, b_law_refused, fdL, a3, a4, a5, sNoX, sTryH, sExprX, xMake, holes, weave, makeX, callX, hi, postP]
end G00

namespace G00
open PySem PySem.Spec PyProof.Rows L2 FD
theorem n0_bad {cl : Nat → Addr} {x : D} (h : badN x) : N0 cl x false := is_number_bad cl h
theorem n1_no {cl : Nat → Addr} {x : D} (h : oIsi2 x (.raw (.ty "str")) = some (.bl false)) : N1 cl x false := is_name_no cl h
theorem n1_str {cl : Nat → Addr} {s : Str} (cs : List Nat) (e : s = wd cs) (h : ¬ okW cs) (hl : cs.length ≤ 1000) : N1 cl (.str s) false := by
  subst e; exact is_name_bad cl h hl
instance (cs : List Nat) : Decidable (okW cs) := by unfold okW; infer_instance
theorem n1_e {cl : Nat → Addr} : N1 cl (.str "") false := n1_str [] (by decide) (by decide) (by decide)
theorem n1_long {cl : Nat → Addr} : N1 cl (.str "abcdefghi") false := n1_str [97, 98, 99, 100, 101, 102, 103, 104, 105] (by decide) (by decide) (by decide)
theorem n1_Ann {cl : Nat → Addr} : N1 cl (.str "Ann") false := n1_str [65, 110, 110] (by decide) (by decide) (by decide)
theorem n1_ab {cl : Nat → Addr} : N1 cl (.str "a b") false := n1_str [97, 32, 98] (by decide) (by decide) (by decide)
theorem n1_an9 {cl : Nat → Addr} : N1 cl (.str "an9") false := n1_str [97, 110, 57] (by decide) (by decide) (by decide)
theorem n1_No {cl : Nat → Addr} : N1 cl (.str "No") false := n1_str [78, 111] (by decide) (by decide) (by decide)
theorem n1_ok {cl : Nat → Addr} : N1 cl (.str "ok") true := by
  have := is_name_ok (cs := [111, 107]) cl (by decide)
  rwa [show wd [111, 107] = Str.ofString "ok" by decide] at this
theorem n1_ab_ {cl : Nat → Addr} : N1 cl (.str "ab") true := by
  have := is_name_ok (cs := [97, 98]) cl (by decide)
  rwa [show wd [97, 98] = Str.ofString "ab" by decide] at this
/-! rows that are no answers -/
theorem n3_no {cl : Nat → Addr} {x n : D} (h : oIsiT ["list", "tuple"] x = some (.bl false)) : N3 cl x n false := by
  unfold N3
  simp [f_are_answers, b_are_answers, h, postP]
theorem n3_long {cl : Nat → Addr} {xs : List D} {n : D} (h : 8 < xs.length) : N3 cl (.lst xs) n false := by
  unfold N3
  have hi : oIsiT ["list", "tuple"] (.lst xs) = some (.bl true) := rfl
  have h' : (8 : Int) < (xs.length : Int) := by omega
  simp [f_are_answers, b_are_answers, hi, h', postP]
theorem n3_one {cl : Nat → Addr} {x n : D} (h : N0 cl x false) : N3 cl (.lst [x]) n false := by
  unfold N3
  unfold N0 at h
  have hi : oIsiT ["list", "tuple"] (.lst [x]) = some (.bl true) := rfl
  have hz : 1 < sizeLine := by decide
  simp [f_are_answers, b_are_answers, hi, lcP, h, hz, oAll, FD.allB, postP]
theorem n3_rep {cl : Nat → Addr} {as : List Int} {n : Int} (hr : ∀ a ∈ as, 1 ≤ a ∧ a ≤ NN) (hl : as.length ≤ 8) (h : n ∈ as ∨ dcount as < as.length) : N3 cl (.lst (iL as)) (.int n) false := by
  unfold N3
  have i1 : oIsiT ["list", "tuple"] (.lst (iL as)) = some (.bl true) := rfl
  have hlt : as.length < sizeLine := by have : (41 : Nat) < sizeLine := by decide
                                        omega
  have hn : ¬ (8 : Int) < (as.length : Int) := by omega
  have hlc := lcP_mapT (enc := fun a : Int => D.int a) (g := gN 2) (f := pCall (f_is_number cl) (pCons (pVar 2) pNil)) (γ := [.d (.lst (iL as)), .d (.int n), .em]) (fun _ => .bl true) as (fun a ha => ⟨[.d (.lst (iL as)), .d (.int n), .d (.int a)], rfl, by simp [is_number_ok cl (hr a ha).1 (hr a ha).2]⟩)
  obtain ⟨bs, e1, e2⟩ := allB_true (xs := as.map fun _ => D.bl true) (fun x hx => by simp at hx; exact hx.2.symm)
  have hw : walkD (.lst (iL as)) = some (as.map fun a : Int => D.int a) := rfl
  have hln : oLen (.lst (iL as)) = some (.int (as.length : Nat)) := by simp [oLen, iL_len]
  by_cases hin : n ∈ as
  · have hni : oNotIn (.int n) (.lst (iL as)) = some (.bl false) := by
      have h2 : ((as.map D.int).all D.flat) = true := by simp [D.flat]
      simp only [oNotIn, items]; unfold iL; rw [if_pos ⟨rfl, h2⟩, any_ints]; simp [hin]
    simp only [f_are_answers, b_are_answers]
    simp [-oNotIn_l, -oLen_l, i1, hln, hn, hw, hlt, hlc, oAll, e1, e2, hni, postP]
  · have hni : oNotIn (.int n) (.lst (iL as)) = some (.bl true) := by
      have h2 : ((as.map D.int).all D.flat) = true := by simp [D.flat]
      simp only [oNotIn, items]; unfold iL; rw [if_pos ⟨rfl, h2⟩, any_ints]; simp [hin]
    have hnd : dcount as < as.length := h.elim (fun z => absurd z hin) id
    have hls : oLenSet (.lst (iL as)) = some (.int (dcount as : Nat)) := by
      have hi : allI (iL as) = some as := by unfold iL; exact allI_map as
      have hs : as.length < 60 := by omega
      have hs2 : dcount as < 60 := by omega
      simp [oLenSet, hi, hs, hs2]
    have hm' : ¬ (dcount as : Int) = (as.length : Int) := by omega
    simp only [f_are_answers, b_are_answers]
    simp [-oNotIn_l, -oLen_l, i1, hln, hn, hw, hlt, hlc, oAll, e1, e2, hni, hls, hm', postP]
/-! rows that are no names -/
theorem n4_no {cl : Nat → Addr} {x : D} {m : Int} (h : oIsiT ["list", "tuple"] x = some (.bl false)) : N4 cl x m false := by
  unfold N4
  simp [f_are_names, b_are_names, h, postP]
theorem n4_long {cl : Nat → Addr} {xs : List D} {m : Int} (h : m < (xs.length : Int)) : N4 cl (.lst xs) m false := by
  unfold N4
  have hi : oIsiT ["list", "tuple"] (.lst xs) = some (.bl true) := rfl
  simp [f_are_names, b_are_names, hi, h, postP]
theorem n4_one {cl : Nat → Addr} {x : D} {m : Int} (hm : 2 ≤ m) (h : N1 cl x false) : N4 cl (.lst [x]) m false := by
  unfold N4
  unfold N1 at h
  have hi : oIsiT ["list", "tuple"] (.lst [x]) = some (.bl true) := rfl
  have hz : 1 < sizeLine := by decide
  have hn : ¬ m < 1 := by omega
  simp [f_are_names, b_are_names, hi, lcP, h, hz, hn, oAll, FD.allB, postP]
theorem n4_two {cl : Nat → Addr} {x y : D} {m : Int} (hm : 2 ≤ m) (h0 : N1 cl x true) (h : N1 cl y false) : N4 cl (.lst [x, y]) m false := by
  unfold N4
  unfold N1 at h h0
  have hi : oIsiT ["list", "tuple"] (.lst [x, y]) = some (.bl true) := rfl
  have hz : 2 < sizeLine := by decide
  have hn : ¬ m < 2 := by omega
  simp [f_are_names, b_are_names, hi, lcP, h, h0, hz, hn, oAll, FD.allB, postP]
end G00

namespace G00
open PySem PySem.Spec PyProof.Rows L2 FD
/-- what stands where a wrong field was put -/
def BD (cl : Nat → Addr) (x0 : D) : Nat → D → Prop
  | 0, x => badN x
  | 1, x => N1 cl x false
  | 2, x => N1 cl x false
  | 3, x => ∀ n, x0 = .int n → 1 ≤ n → n ≤ NN → N3 cl x (.int n) false
  | 4, x => N4 cl x 8 false
  | _, x => N4 cl x 40 false
theorem bad0 {s : Bg} {fs : List D} (cl : Nat → Addr) (h : okB s) : ∃ x s', okB s' ∧ badN x ∧ f_law_bad cl [bg s, .d (.int 0), .lst fs] = some (.ret (.d x) [bg s', .d (.int 0), .lst fs]) := by
  have d99 : dvOk 99 := by decide
  have d6 : dvOk 6 := by decide
  have r1 := tk_rng (s := s) (n := 99) h (by omega)
  have h1 := tkS_ok (s := s) (n := 99) h (by omega)
  have r2 := tk_rng (s := tkS s 99) (n := 6) h1 (by omega)
  have h2 := tkS_ok (s := tkS s 99) (n := 6) h1 (by omega)
  have key : ∃ x, atI [D.int 0, D.int 1000000000000000000000000000001, D.int (-1 - tk s 99), D.bl true, D.str (Str.ofString "7"), D.non] (tk (tkS s 99) 6) = some x ∧ badN x := by
    generalize tk (tkS s 99) 6 = t at r2
    have : t = 0 ∨ t = 1 ∨ t = 2 ∨ t = 3 ∨ t = 4 ∨ t = 5 := by omega
    rcases this with rfl | rfl | rfl | rfl | rfl | rfl
    · exact ⟨_, rfl, .inl ⟨0, rfl, .inl (by decide)⟩⟩
    · exact ⟨_, rfl, .inl ⟨_, rfl, .inr (by decide)⟩⟩
    · exact ⟨_, rfl, .inl ⟨_, rfl, .inl (by omega)⟩⟩
    · exact ⟨_, rfl, .inr (.inl ⟨_, rfl⟩)⟩
    · exact ⟨_, rfl, .inr (.inr (.inl ⟨_, rfl⟩))⟩
    · exact ⟨_, rfl, .inr (.inr (.inr (.inl rfl)))⟩
  obtain ⟨x, e, hx⟩ := key
  refine ⟨x, _, h2, hx, ?_⟩
  simp [f_law_bad, b_law_bad, bg, takeE cl h d99, takeE cl h1 d6, e, postP, (by decide : 6 ≤ sizeLine)]
theorem bad1 {s : Bg} {fs : List D} (cl : Nat → Addr) (h : okB s) (k : Int) (hk : k = 1 ∨ k = 2) : ∃ x s', okB s' ∧ N1 cl x false ∧ f_law_bad cl [bg s, .d (.int k), .lst fs] = some (.ret (.d x) [bg s', .d (.int k), .lst fs]) := by
  have d8 : dvOk 8 := by decide
  have r2 := tk_rng (s := s) (n := 8) h (by omega)
  have h2 := tkS_ok (s := s) (n := 8) h (by omega)
  have key : ∃ x, atI [D.str (Str.ofString ""), D.str (Str.ofString "abcdefghi"), D.str (Str.ofString "Ann"), D.str (Str.ofString "a b"), D.str (Str.ofString "an9"), D.non, D.int 5, D.lst [D.str (Str.ofString "ann")]] (tk s 8) = some x ∧ N1 cl x false := by
    generalize tk s 8 = t at r2
    have : t = 0 ∨ t = 1 ∨ t = 2 ∨ t = 3 ∨ t = 4 ∨ t = 5 ∨ t = 6 ∨ t = 7 := by omega
    rcases this with rfl | rfl | rfl | rfl | rfl | rfl | rfl | rfl
    · exact ⟨_, rfl, n1_e⟩
    · exact ⟨_, rfl, n1_long⟩
    · exact ⟨_, rfl, n1_Ann⟩
    · exact ⟨_, rfl, n1_ab⟩
    · exact ⟨_, rfl, n1_an9⟩
    · exact ⟨_, rfl, n1_no rfl⟩
    · exact ⟨_, rfl, n1_no rfl⟩
    · exact ⟨_, rfl, n1_no rfl⟩
  obtain ⟨x, e, hx⟩ := key
  refine ⟨x, _, h2, hx, ?_⟩
  rcases hk with rfl | rfl <;> simp [f_law_bad, b_law_bad, bg, takeE cl h d8, e, postP, (by decide : 8 ≤ sizeLine), (by decide : 1 ≤ sizeLine)]
theorem bad3 {s : Bg} {x0 : D} {fs : List D} (cl : Nat → Addr) (h : okB s) (h0 : atI fs 0 = some x0) (hi : ∃ b, oIsi2 x0 (.raw (.ty "int")) = some (.bl b)) : ∃ x s', okB s' ∧ (∀ n, x0 = .int n → 1 ≤ n → n ≤ NN → N3 cl x (.int n) false) ∧ f_law_bad cl [bg s, .d (.int 3), .lst fs] = some (.ret (.d x) [bg s', .d (.int 3), .lst fs]) := by
  have d12 : dvOk 12 := by decide
  have r2 := tk_rng (s := s) (n := 12) h (by omega)
  have h2 := tkS_ok (s := s) (n := 12) h (by omega)
  obtain ⟨b, hi⟩ := hi
  have hv : ∃ v, (if b = true then some x0 else some (D.int 3)) = some v ∧ ∀ n, x0 = .int n → v = .int n := by
    cases b with
    | true => exact ⟨x0, rfl, fun n e => e⟩
    | false => exact ⟨.int 3, rfl, fun n e => by subst e; cases hi⟩
  obtain ⟨v, ev, hv⟩ := hv
  have hlc : ∀ γ : List T, γ.length = 7 → lcP (gN 6) bYes (pOp oAdd (pOp oMul (pC (.int 2)) (pOp oPow (pC (.int 10)) (pC (.int 9)))) (pVar 6)) γ (intsD 0 9) = some ((List.range 9).map fun i : Nat => .int (2000000000 + (0 + (i : Int)))) := fun γ hγ => by
    refine lcP_mapT (enc := fun i : Nat => D.int (0 + (i : Int))) (fun i : Nat => .int (2000000000 + (0 + (i : Int)))) (List.range 9) fun i hi => ⟨γ.set 6 (.d (.int (0 + (i : Int)))), rfl, ?_⟩
    have m : mulOk 2 1000000000 := by decide
    simp [m, hγ]
  have key : ∃ x, atI [D.lst [v], D.lst [D.int 12, D.int 12], D.lst [D.int 4, D.int 5, D.int 4], D.lst [D.int 0], D.lst [D.bl true], D.lst [D.int 1000000000000000000000000000001], D.lst [D.str (Str.ofString "3")], D.str (Str.ofString "34"), D.non, D.dic [] [], D.int 5, D.lst ((List.range 9).map fun i : Nat => .int (2000000000 + (0 + (i : Int))))] (tk s 12) = some x ∧ (∀ n, x0 = .int n → 1 ≤ n → n ≤ NN → N3 cl x (.int n) false) := by
    generalize tk s 12 = t at r2
    have : t = 0 ∨ t = 1 ∨ t = 2 ∨ t = 3 ∨ t = 4 ∨ t = 5 ∨ t = 6 ∨ t = 7 ∨ t = 8 ∨ t = 9 ∨ t = 10 ∨ t = 11 := by omega
    rcases this with rfl | rfl | rfl | rfl | rfl | rfl | rfl | rfl | rfl | rfl | rfl | rfl
    · refine ⟨_, rfl, fun n e n1 n2 => ?_⟩
      rw [hv n e]
      exact n3_rep (as := [n]) (fun a ha => by simp at ha; subst ha; exact ⟨n1, n2⟩) (by simp) (.inl (by simp))
    · exact ⟨_, rfl, fun n e n1 n2 => n3_rep (as := [12, 12]) (fun a ha => by simp at ha; subst ha; decide) (by decide) (.inr (by decide))⟩
    · exact ⟨_, rfl, fun n e n1 n2 => n3_rep (as := [4, 5, 4]) (fun a ha => by simp at ha; rcases ha with rfl | rfl | rfl <;> decide) (by decide) (.inr (by decide))⟩
    · exact ⟨_, rfl, fun n e n1 n2 => n3_one (n0_bad (.inl ⟨0, rfl, .inl (by decide)⟩))⟩
    · exact ⟨_, rfl, fun n e n1 n2 => n3_one (n0_bad (.inr (.inl ⟨_, rfl⟩)))⟩
    · exact ⟨_, rfl, fun n e n1 n2 => n3_one (n0_bad (.inl ⟨_, rfl, .inr (by decide)⟩))⟩
    · exact ⟨_, rfl, fun n e n1 n2 => n3_one (n0_bad (.inr (.inr (.inl ⟨_, rfl⟩))))⟩
    · exact ⟨_, rfl, fun n e n1 n2 => n3_no rfl⟩
    · exact ⟨_, rfl, fun n e n1 n2 => n3_no rfl⟩
    · exact ⟨_, rfl, fun n e n1 n2 => n3_no rfl⟩
    · exact ⟨_, rfl, fun n e n1 n2 => n3_no rfl⟩
    · exact ⟨_, rfl, fun n e n1 n2 => n3_long (by simp)⟩
  obtain ⟨x, e, hx⟩ := key
  refine ⟨x, _, h2, hx, ?_⟩
  have z1 : 1 ≤ sizeLine := by decide
  have z2 : 2 ≤ sizeLine := by decide
  have z3 : 3 ≤ sizeLine := by decide
  have z12 : 12 ≤ sizeLine := by decide
  have z9 : (intsD 0 9).length < sizeLine := by decide
  simp only [Int.zero_add] at e hlc
  simp [f_law_bad, b_law_bad, bg, takeE cl h d12, h0, hi, ev, hlc, e, postP, z1, z2, z3, z12, z9]
theorem bad4 {s : Bg} {fs : List D} (cl : Nat → Addr) (h : okB s) (k m : Int) (hk : (k = 4 ∧ m = 8) ∨ (k = 5 ∧ m = 40)) : ∃ x s', okB s' ∧ N4 cl x m false ∧ f_law_bad cl [bg s, .d (.int k), .lst fs] = some (.ret (.d x) [bg s', .d (.int k), .lst fs]) := by
  have d9 : dvOk 9 := by decide
  have r2 := tk_rng (s := s) (n := 9) h (by omega)
  have h2 := tkS_ok (s := s) (n := 9) h (by omega)
  have hm : 2 ≤ m := by omega
  have key : ∃ x, atI [D.lst (List.replicate (m + 1).toNat [D.str (Str.ofString "ab")]).flatten, D.lst [D.str (Str.ofString "")], D.lst [D.str (Str.ofString "ok"), D.str (Str.ofString "No")], D.lst [D.str (Str.ofString "ok"), D.int 3], D.str (Str.ofString "ab"), D.non, D.lst [D.str (Str.ofString "abcdefghi")], D.dic [.inr (Str.ofString "ab")] [D.int 1], D.int 7] (tk s 9) = some x ∧ N4 cl x m false := by
    generalize tk s 9 = t at r2
    have : t = 0 ∨ t = 1 ∨ t = 2 ∨ t = 3 ∨ t = 4 ∨ t = 5 ∨ t = 6 ∨ t = 7 ∨ t = 8 := by omega
    rcases this with rfl | rfl | rfl | rfl | rfl | rfl | rfl | rfl | rfl
    · exact ⟨_, rfl, n4_long (by simp; omega)⟩
    · exact ⟨_, rfl, n4_one hm n1_e⟩
    · exact ⟨_, rfl, n4_two hm n1_ok n1_No⟩
    · exact ⟨_, rfl, n4_two hm n1_ok (n1_no rfl)⟩
    · exact ⟨_, rfl, n4_no rfl⟩
    · exact ⟨_, rfl, n4_no rfl⟩
    · exact ⟨_, rfl, n4_one hm n1_long⟩
    · exact ⟨_, rfl, n4_no rfl⟩
    · exact ⟨_, rfl, n4_no rfl⟩
  obtain ⟨x, e, hx⟩ := key
  refine ⟨x, _, h2, hx, ?_⟩
  have z1 : 1 ≤ sizeLine := by decide
  have z2 : 2 ≤ sizeLine := by decide
  have z9 : 9 ≤ sizeLine := by decide
  have z41 : (9 : Int) ≤ (sizeLine : Nat) := by decide
  have z42 : (41 : Int) ≤ (sizeLine : Nat) := by decide
  rcases hk with ⟨rfl, rfl⟩ | ⟨rfl, rfl⟩
  · simp at e
    simp [f_law_bad, b_law_bad, bg, takeE cl h d9, postP, z1, z2, z9, z41, e]
  · simp at e
    simp [f_law_bad, b_law_bad, bg, takeE cl h d9, postP, z1, z2, z9, z42, e]
end G00

namespace G00
open PySem PySem.Spec PyProof.Rows L2 FD
theorem layW {w : List Nat} (h : okW w) : PyData.canLay0 (.str (wd w)) = true := by
  have h2 := layN [w] (by simpa using h)
  have : (PyData.canLay0 (.str (wd w)) && true) = true := h2
  simpa using this
theorem shpF {f : Fd} (h : okF f) : (D.lst (fdL f)).shaped = true := by
  have d1 := depI f.as
  have d2 := depN f.sub
  have d3 := depN f.ws
  have c1 := layI f.as
  have c2 := layN f.sub h.2.2.2.2.2.1.1
  have c3 := layN f.ws h.2.2.2.2.2.2.1
  have w1 := layW h.2.2.1
  have w2 := layW h.2.2.2.1
  simp only [PyData.canLay0] at w1 w2
  simp only [D.shaped, SeqAt.shaped, D.pure, D.pureA, D.py, D.pyA, fdL, PyData.canLay0, PyData.canLayAll0, PyData.depth, PyData.depthAll, pureI, pureN, c1, c2, c3, w1, w2, Bool.true_and, Bool.and_true, decide_eq_true_eq]
  omega
theorem eqFd {f g : Fd} (hf : okF f) (hg : okF g) : oEq (.lst (fdL f)) (.lst (fdL g)) = some (.bl (decide (eqF f g))) := by
  have e : D.eqv (.lst (fdL f)) (.lst (fdL g)) = decide (eqF f g) := by
    show ((f.n == g.n) && ((wd f.p == wd g.p) && ((wd f.q == wd g.q) && (PyData.eqvAll (D.pyA (iL f.as)) (D.pyA (iL g.as)) && (PyData.eqvAll (D.pyA (nL f.sub)) (D.pyA (nL g.sub)) && (PyData.eqvAll (D.pyA (nL f.ws)) (D.pyA (nL g.ws)) && true)))))) = decide (eqF f g)
    rw [eqv_ints, eqv_names, eqv_names, Bool.eq_iff_iff, decide_eq_true_iff]
    unfold eqF
    simp [wd_inj]
  have s0 : sEq (.lst (fdL f)) (.lst (fdL g)) = none := rfl
  unfold oEq
  rw [s0]
  simp only [shpF hf, shpF hg, and_self, if_true, e]
theorem letter_okL {f : Fd} (cl : Nat → Addr) (h : okF f) : f_law_letter cl [.lst (fdL f)] = some (.ret (.obj (cl 3) lN ((lD f).map .d)) [.lst (fdL f)]) := by
  simp [f_law_letter, b_law_letter, fdL, eMake, makeF, holes, weave, a3, a4, a5, initL cl h, postP]
theorem toDs_mapd : ∀ ds : List D, T.toDs (ds.map .d) = some ds
  | [] => by simp
  | d :: ds => by simp [toDs_mapd ds]
/-- equal letters exactly if equal fields -/
theorem ownEq_ok {f g : Fd} (cl : Nat → Addr) (hf : okF f) (hg : okF g) : oOwnEq (cl 3) (f_Letter_eq cl) (.ins (cl 3) lN (lD f)) (.ins (cl 3) lN (lD g)) = some (.bl (decide (eqF f g))) := by
  simp [oOwnEq, besideD, letter_eq cl hf hg]
theorem ownNe_ok {f g : Fd} (cl : Nat → Addr) (hf : okF f) (hg : okF g) : oOwnNe (cl 3) (f_Letter_eq cl) (.ins (cl 3) lN (lD f)) (.ins (cl 3) lN (lD g)) = some (.bl (!decide (eqF f g))) := by
  simp [oOwnNe, ownEq_ok cl hf hg]
theorem ownNe_int {f : Fd} {n : Int} (cl : Nat → Addr) : oOwnNe (cl 3) (f_Letter_eq cl) (.ins (cl 3) lN (lD f)) (.int n) = some (.bl true) := by
  have hi : oIsiO (cl 3) (.int n) (.raw (.ref (cl 3))) = some (.bl false) := by simp [oIsiO, oIsiC]; rfl
  have : f_Letter_eq cl [.d (.ins (cl 3) lN (lD f)), .d (.int n)] = some (.ret (.d (.bl false)) [.d (.ins (cl 3) lN (lD f)), .d (.int n)]) := by
    simp [f_Letter_eq, b_Letter_eq, hi, postP]
  simp [oOwnNe, oOwnEq, besideD, this]
theorem initO {f : Fd} (cl : Nat → Addr) (h : okF f) : f_Letter_init cl [.obj (cl 3) [] [], .d (.int f.n), .d (.str (wd f.p)), .d (.str (wd f.q)), .lst (iL f.as), .d (.tup (nL f.sub)), .lst (nL f.ws)] = some (.ret (.d .non) [.obj (cl 3) lN ((lD f).map .d), .d (.int f.n), .d (.str (wd f.p)), .d (.str (wd f.q)), .lst (iL f.as), .d (.tup (nL f.sub)), .lst (nL f.ws)]) := init_ok cl true true false true true h
theorem neI (as : List Int) (b : Bool) : oNe (sq b (iL as)) (sq b (iL as)) = some (.bl false) := by
  have := eqI as as b
  unfold oEq at this
  unfold oNe
  have s0 : sEq (sq b (iL as)) (sq b (iL as)) = none := by cases b <;> rfl
  rw [s0] at this ⊢
  simp only [shpI, and_self, if_true, Option.some.injEq, D.bl.injEq, decide_true] at this ⊢
  rw [this]; rfl
theorem neN (as : List (List Nat)) (b : Bool) (h : ∀ w ∈ as, okW w) : oNe (sq b (nL as)) (sq b (nL as)) = some (.bl false) := by
  have := eqN as as b h h
  unfold oEq at this
  unfold oNe
  have s0 : sEq (sq b (nL as)) (sq b (nL as)) = none := by cases b <;> rfl
  rw [s0] at this ⊢
  simp only [shpN as b h, and_self, if_true, Option.some.injEq, D.bl.injEq, decide_true] at this ⊢
  rw [this]; rfl
theorem is_made_ok {f : Fd} (cl : Nat → Addr) (h : okF f) : f_law_is_made cl [.d (.lst (fdL f))] = some (.ret (.d (.bl true)) [.d (.lst (fdL f))]) := by
  have n1 : oNe (.lst (iL f.as)) (.lst (iL f.as)) = some (.bl false) := neI f.as true
  have n2 : oNe (.lst (nL f.sub)) (.lst (nL f.sub)) = some (.bl false) := neN f.sub true h.2.2.2.2.2.1.1
  have n3 : oNe (.lst (nL f.ws)) (.lst (nL f.ws)) = some (.bl false) := neN f.ws true h.2.2.2.2.2.2.1
  have m1 : oNe (.tup (iL f.as)) (.tup (iL f.as)) = some (.bl false) := neI f.as false
  have m2 : oNe (.tup (nL f.sub)) (.tup (nL f.sub)) = some (.bl false) := neN f.sub false h.2.2.2.2.2.1.1
  have m3 : oEq (.tup (nL f.ws)) (.tup (nL f.ws)) = some (.bl true) := by
    have := eqN f.ws f.ws false h.2.2.2.2.2.2.1 h.2.2.2.2.2.2.1
    rw [decide_eq_true rfl] at this
    exact this
  have hi := initO cl h
  have hl := letter_ok cl h
  have ho := ownEq_ok cl h h
  have hn := ownNe_int (f := f) (n := f.n) cl
  have he : decide (eqF f f) = true := decide_eq_true ⟨rfl, rfl, rfl, rfl, rfl, rfl⟩
  rw [he] at ho
  have F : ∀ (i : Nat) (x : D), (lD f)[i]? = some x → ∀ γ : List T, γ[4]? = some (.d (.ins (cl 3) lN (lD f))) → pFld (cl 3) lN i (pVar 4) γ = some x := fun i x h2 γ h1 => by
    simp [pFld, h1, h2]
  have hnm : (["number", "person", "house", "answers", "subject", "words", "sender"] : List Str) = lN := rfl
  have z1 : f.as.length < sizeLine := by have : (41 : Nat) < sizeLine := by decide
                                         have := h.2.2.2.2.1.2.2
                                         omega
  have z2 : f.ws.length < sizeLine := by have : (41 : Nat) < sizeLine := by decide
                                         have := h.2.2.2.2.2.2.2
                                         omega
  unfold f_law_is_made b_law_is_made
  rw [hnm]
  have ni : ∀ i : Int, oNe (.int i) (.int i) = some (.bl false) := fun i => by simp
  have ns : ∀ i : Str, oNe (.str i) (.str i) = some (.bl false) := fun i => by simp
  have ib : ∀ i : Int, oIsi2 (.int i) (.raw (.ty "bool")) = some (.bl false) := fun i => rfl
  have zp : (wd f.p).length = f.p.length := by simp [wd, Str.length]
  have zq : (wd f.q).length = f.q.length := by simp [wd, Str.length]
  have z3 : (Str.ofString " at ").length = 4 := by decide
  have lap : ∀ a b : Str, (a ++ b).length = a.length + b.length := fun a b => by
    show (a.cps ++ b.cps).size = _
    simp [Str.length]
  have zz : (100 : Nat) < sizeLine := by decide
  have p2 := h.2.2.1.2.1
  have q2 := h.2.2.2.1.2.1
  have y3 : f.p.length + 4 ≤ sizeLine := by omega
  have y4 : f.p.length + 4 + f.q.length ≤ sizeLine := by omega
  have hl' := hl
  have ho' := ho
  simp only [fdL] at hl'
  simp [fdL, eMake, makeF, holes, weave, a3, a4, a5, hi, n1, n2, n3, -oNe_app, -oEq_app, toDs_mapd, iL_len, nL_len, z1, z2, postP, F 0 _ rfl, F 1 _ rfl, F 2 _ rfl, F 3 _ rfl, F 4 _ rfl, F 5 _ rfl, F 6 _ rfl, ni, ns, ib, zp, zq, z3, lap, y3, y4, m1, m2, m3, hl', ho, hn, sender]
end G00

namespace G00
open PySem PySem.Spec PyProof.Rows L2 FD
theorem up_c : ∀ c : Nat, 97 ≤ c → c ≤ 122 → Unicode.upperOf c = [c - 32] := fun c h1 h2 => by
  have : ∀ c ∈ (List.range 26).map (97 + ·), Unicode.upperOf c = [c - 32] := by decide +kernel
  exact this c (List.mem_map.mpr ⟨c - 97, List.mem_range.mpr (by omega), by omega⟩)
theorem up_f : ∀ l : List Nat, (∀ c ∈ l, 97 ≤ c ∧ c ≤ 122) → (l.map fun c => Unicode.upperOf c).flatten = l.map (· - 32)
  | [], _ => rfl
  | c :: l, h => by
    rw [List.map_cons, List.flatten_cons, up_f l fun d m => h d (by simp [m]), up_c c (h c (by simp)).1 (h c (by simp)).2]
    rfl
theorem mapIdx_c {α β : Type} (g : α → β) (l : List α) : l.mapIdx (fun _ c => g c) = l.map g := by
  apply List.ext_getElem <;> simp
theorem upper_wd {p : List Nat} (h : ∀ c ∈ p, 97 ≤ c ∧ c ≤ 122) : Txt.upper (wd p) = wd (p.map (· - 32)) := by
  have e : (placed (wd p) fun _ c => Unicode.upperOf c).toList = p.map (· - 32) := by
    unfold placed wd
    simp [mapIdx_c]
    rw [← up_f p h]
    rfl
  have e2 : (placed (wd p) fun _ c => Unicode.upperOf c) = (p.map (· - 32)).toArray := by
    rw [← e]
  show Str.mk _ = Str.mk _
  rw [e2]
/-- none of them is one -/
theorem any_bad {F : FN} {γ : List T} {i : Nat} (hi : i < γ.length) : ∀ (xs : List D), (∀ x ∈ xs, F [.d x] = some (.ret (.d (.bl false)) [.d x])) → lcP (gN i) bYes (pCall F (pCons (pVar i) pNil)) γ xs = some (xs.map fun _ => .bl false) := fun xs h => by
  have := lcP_mapT (enc := fun x : D => x) (g := gN i) (f := pCall F (pCons (pVar i) pNil)) (γ := γ) (fun _ => .bl false) xs fun x hx => ⟨γ.set i (.d x), rfl, by simp [hi, h x hx]⟩
  simpa using this
theorem allB_falses {α : Type} : ∀ xs : List α, FD.allB (xs.map fun _ => D.bl false) = some (xs.map fun _ => false)
  | [] => rfl
  | x :: xs => by simp [FD.allB, allB_falses xs]
theorem any_false {α : Type} (xs : List α) : (xs.map fun _ => false).any id = false := by simp
theorem oAny_bad {α : Type} (xs : List α) : oAny (.lst (xs.map fun _ => D.bl false)) = some (.bl false) := by
  show (FD.allB (xs.map fun _ => D.bl false)).map _ = _
  rw [allB_falses, Option.map_some, any_false]
theorem are_told_ok {f : Fd} (cl : Nat → Addr) (h : okF f) : f_law_are_told cl [.d (.lst (fdL f))] = some (.ret (.d (.bl true)) [.d (.lst (fdL f))]) := by
  have p0 := is_number_ok cl h.1 h.2.1
  have p1 := is_name_ok cl h.2.2.1
  have p2 := is_name_ok cl h.2.2.2.1
  have q0 : N1 cl (.int f.n) false := n1_no rfl
  have q1 : N0 cl (.str (wd f.p)) false := n0_bad (.inr (.inr (.inl ⟨_, rfl⟩)))
  have zz : (1000 : Nat) < sizeLine := by decide
  have hp := h.2.2.1.2.1
  have zp : (wd f.p).length = f.p.length := by simp [wd, Str.length]
  have z1 : (Str.ofString "-").length = 1 := by decide
  have y1 : f.p.length + 1 ≤ sizeLine := by omega
  have hm : wd f.p ++ Str.ofString "-" = wd (f.p ++ [45]) := by
    rw [show Str.ofString "-" = wd [45] by decide, str_app]
  have b1 : N1 cl (.str (wd (f.p ++ [45]))) false := n1_str _ rfl (fun z => by have := z.2.2 45 (by simp); omega) (by simp; omega)
  have hu := upper_wd h.2.2.1.2.2
  have b2 : N1 cl (.str (wd (f.p.map (· - 32)))) false := n1_str _ rfl (fun z => by
    have h1 := h.2.2.1.1
    obtain ⟨c, l, e⟩ : ∃ c l, f.p = c :: l := by
      cases e : f.p with
      | nil => rw [e] at h1; simp at h1
      | cons c l => exact ⟨c, l, rfl⟩
    have h2 := h.2.2.1.2.2 c (by rw [e]; simp)
    have := z.2.2 (c - 32) (by rw [e]; simp)
    omega) (by simp; omega)
  have y2 : f.p.length ≤ 5592405 := by omega
  have odd : ∀ x ∈ [D.str (Str.ofString ""), D.str (Str.ofString "abcdefghi"), D.str (Str.ofString "Ann"), D.str (Str.ofString "a b"), D.str (Str.ofString "an9"), D.non, D.int 5, D.lst [D.str (Str.ofString "ann")], D.str (wd (f.p ++ [45])), D.str (wd (f.p.map (· - 32))), D.bl true], f_is_name cl [.d x] = some (.ret (.d (.bl false)) [.d x]) := fun x hx => by
    simp only [List.mem_cons, List.not_mem_nil, or_false] at hx
    rcases hx with rfl | rfl | rfl | rfl | rfl | rfl | rfl | rfl | rfl | rfl | rfl
    · exact n1_e
    · exact n1_long
    · exact n1_Ann
    · exact n1_ab
    · exact n1_an9
    · exact n1_no rfl
    · exact n1_no rfl
    · exact n1_no rfl
    · exact b1
    · exact b2
    · exact n1_no rfl
  have bad : ∀ x ∈ [D.int 0, D.int 1000000000000000000000000000001, D.int (-f.n), D.bl true, D.str (Str.ofString "7"), D.non, D.lst [D.int 1]], f_is_number cl [.d x] = some (.ret (.d (.bl false)) [.d x]) := fun x hx => by
    simp only [List.mem_cons, List.not_mem_nil, or_false] at hx
    rcases hx with rfl | rfl | rfl | rfl | rfl | rfl | rfl
    · exact n0_bad (.inl ⟨0, rfl, .inl (by decide)⟩)
    · exact n0_bad (.inl ⟨_, rfl, .inr (by decide)⟩)
    · exact n0_bad (.inl ⟨_, rfl, .inl (by have := h.1; omega)⟩)
    · exact n0_bad (.inr (.inl ⟨_, rfl⟩))
    · exact n0_bad (.inr (.inr (.inl ⟨_, rfl⟩)))
    · exact n0_bad (.inr (.inr (.inr (.inl rfl))))
    · exact n0_bad (.inr (.inr (.inr (.inr ⟨_, rfl⟩))))
  have A1 : ∀ γ : List T, 2 < γ.length → _ := fun γ hγ => any_bad (F := f_is_name cl) (i := 2) hγ _ odd
  have A2 : ∀ γ : List T, 2 < γ.length → _ := fun γ hγ => any_bad (F := f_is_number cl) (i := 2) hγ _ bad
  unfold N0 at q1
  unfold N1 at q0
  have s11 : 11 < sizeLine := by decide
  have s11' : 11 ≤ sizeLine := by decide
  have s7 : 7 < sizeLine := by decide
  have s7' : 7 ≤ sizeLine := by decide
  have s1 : 1 ≤ sizeLine := by decide
  have o11 : oAny (.lst [D.bl false, D.bl false, D.bl false, D.bl false, D.bl false, D.bl false, D.bl false, D.bl false, D.bl false, D.bl false, D.bl false]) = some (.bl false) := rfl
  have o7 : oAny (.lst [D.bl false, D.bl false, D.bl false, D.bl false, D.bl false, D.bl false, D.bl false]) = some (.bl false) := rfl
  simp [f_law_are_told, b_law_are_told, fdL, p0, p1, p2, q0, q1, zp, z1, y1, hm, y2, oUpper, hu, A1, A2, s11, s11', s7, s7', s1, o11, o7, postP]
end G00

namespace G00
open PySem PySem.Spec PyProof.Rows L2 FD
def st0 (cl : Nat → Addr) : List T → Option O := (sAsg 4 (eCall (f_law_bag cl) [none, none] (aCons (eP (pVar 0)) (aCons (eP (pVar 3)) aNil))))
def st1 (cl : Nat → Addr) : List T → Option O := (sAsgD 5 (eCall (f_law_fields cl) [some 4] (aBor 4 aNil)))
def st2 (cl : Nat → Addr) : List T → Option O := (sIf (eT (bNot (pTest (pCall (f_law_is_made cl) (pCons (pVar 5) pNil)))))
  (sRet (eP (pC (.bl false))))
  sNext)
def st3 (cl : Nat → Addr) : List T → Option O := (sPar [6, 7] (aCons (eList (pVar 5)) (aCons (eD (eCall (f_law_take cl) [some 4, none] (aBor 4 (aCons (eP (pC (.int 6))) aNil)))) aNil)))
def st4 (cl : Nat → Addr) : List T → Option O := (sAsgD 8 (eCall (f_law_fields cl) [some 4] (aBor 4 aNil)))
def st5 (cl : Nat → Addr) : List T → Option O := (sIf (eT (bAnd (pTest (pOp oNe (pVar 7) (pC (.int 3)))) (pTest (pOp oNe (pVar 7) (pC (.int 0))))))
  (sSetI 6 (eP (pOp oIx (pVar 8) (pVar 7))) (pVar 7))
  sNext)
def st6 (cl : Nat → Addr) : List T → Option O := (sIf (eT (pTest (pOp oEq (pVar 7) (pC (.int 0)))))
  (sAsg 6 (eLst [none, none, none, none, none, none] (aCons (eP (pOp oAdd (pOp oMod (pUn oInt (pOp oIx (pVar 5) (pC (.int 0)))) (pOp oPow (pC (.int 10)) (pC (.int 30)))) (pC (.int 1)))) (aCons (eP (pOp oIx (pVar 5) (pC (.int 1)))) (aCons (eP (pOp oIx (pVar 5) (pC (.int 2)))) (aCons (eP (pLst pNil)) (aCons (eP (pOp oIx (pVar 5) (pC (.int 4)))) (aCons (eP (pOp oIx (pVar 5) (pC (.int 5)))) aNil))))))))
  sNext)
def st7 (cl : Nat → Addr) : List T → Option O := (sIf (eT (pTest (pOp oEq (pVar 7) (pC (.int 3)))))
  (sSetI 6 (eP (pUn oRev (pOp oIx (cVar 6) (pC (.int 3))))) (pC (.int 3)))
  sNext)
def st8 (cl : Nat → Addr) : List T → Option O := (sIf (eTest (eOp [none, none] oNe (aCons (eOp [none, none] (oOwnEq (cl 3) (f_Letter_eq cl)) (aCons (eP (pCall (f_law_letter cl) (pCons (pVar 5) pNil))) (aCons (eCall (f_law_letter cl) [some 6] (aBor 6 aNil)) aNil))) (aCons (eP (pOp oEq (pVar 5) (cVar 6))) aNil))))
  (sRet (eP (pC (.bl false))))
  sNext)
def st9 (cl : Nat → Addr) : List T → Option O := (sPar [9, 10] (aCons (eList (pVar 5)) (aCons (eD (eUn [none] oSortI (aCons (eLst [none, none] (aCons (eCall (f_law_take cl) [some 4, none] (aBor 4 (aCons (eP (pC (.int 6))) aNil))) (aCons (eCall (f_law_take cl) [some 4, none] (aBor 4 (aCons (eP (pC (.int 6))) aNil))) aNil))) aNil))) aNil)))
def st10 (cl : Nat → Addr) : List T → Option O := (sFor (iP (iAnyF (pVar 10))) (gN 7)
  (sSetI 9 (eCall (f_law_bad cl) [some 4, none, some 9] (aBor 4 (aCons (eP (pVar 7)) (aBor 9 aNil)))) (pVar 7)))
def st11 (cl : Nat → Addr) : List T → Option O := (sIf (eOr (eTest (eOp [none, none] oNe (aCons (eCall (f_law_refused cl) [some 9] (aBor 9 aNil)) (aCons (eP (pOp oIx (pVar 1) (pOp oIx (pVar 10) (pC (.int 0))))) aNil)))) (eNot (eTest (eCall (f_law_caught cl) [some 9] (aBor 9 aNil)))))
  (sRet (eP (pC (.bl false))))
  sNext)
def st12 (cl : Nat → Addr) : List T → Option O := (sIf (eT (bOr (pTest (pOp oNotN (pCall (f_law_refused cl) (pCons (pVar 5) pNil)) (pC .non))) (bOr (bNot (pTest (pCall (f_law_is_made cl) (pCons (pVar 5) pNil)))) (bNot (pTest (pCall (f_law_are_told cl) (pCons (pVar 5) pNil)))))))
  (sRet (eP (pC (.bl false))))
  sNext)
def body (cl : Nat → Addr) : List T → Option O := sSeq (st0 cl) (sSeq (st1 cl) (sSeq (st2 cl) (sSeq (st3 cl) (sSeq (st4 cl) (sSeq (st5 cl) (sSeq (st6 cl) (sSeq (st7 cl) (sSeq (st8 cl) (sSeq (st9 cl) (sSeq (st10 cl) (sSeq (st11 cl) (st12 cl))))))))))))
theorem seq_nx {f g : List T → Option O} {γ γ1 : List T} (h : f γ = some (.nx γ1)) : sSeq f g γ = g γ1 := by
  unfold sSeq; rw [h]; rfl
theorem s0_ok {cl : Nat → Addr} {ns : List Int} {i : Int} {c1 c2 t4 t5 t6 t7 t8 t9 t10 : T} (hz : ns.length ≤ 63) (h0 : 0 ≤ i) (h1 : i ≤ 100) : ∃ s, okB s ∧ st0 cl [.d (.lst (ns.map .int)), c1, c2, .d (.int i), t4, t5, t6, t7, t8, t9, t10] = some (.nx [.d (.lst (ns.map .int)), c1, c2, .d (.int i), bg s, t5, t6, t7, t8, t9, t10]) := by
  obtain ⟨s, hs, e⟩ := bag_ex cl hz h0 h1
  refine ⟨s, hs, ?_⟩
  simp [st0, e]
theorem s1_ok {cl : Nat → Addr} {s : Bg} {c0 c1 c2 c3 t5 t6 t7 t8 t9 t10 : T} (hs : okB s) : ∃ f s', okF f ∧ okB s' ∧ st1 cl [c0, c1, c2, c3, bg s, t5, t6, t7, t8, t9, t10] = some (.nx [c0, c1, c2, c3, bg s', .d (.lst (fdL f)), t6, t7, t8, t9, t10]) := by
  obtain ⟨f, s', hf, hs', e⟩ := fields_ex cl hs
  refine ⟨f, s', hf, hs', ?_⟩
  simp only [bg] at e
  simp [st1, bg, e]
theorem s2_ok {cl : Nat → Addr} {f : Fd} {c0 c1 c2 c3 c4 t6 t7 t8 t9 t10 : T} (hf : okF f) : st2 cl [c0, c1, c2, c3, c4, .d (.lst (fdL f)), t6, t7, t8, t9, t10] = some (.nx [c0, c1, c2, c3, c4, .d (.lst (fdL f)), t6, t7, t8, t9, t10]) := by
  simp [st2, is_made_ok cl hf]
theorem s3_ok {cl : Nat → Addr} {s : Bg} {f : Fd} {c0 c1 c2 c3 t6 t7 t8 t9 t10 : T} (hs : okB s) : ∃ p s', (p = 0 ∨ p = 1 ∨ p = 2 ∨ p = 3 ∨ p = 4 ∨ p = 5) ∧ okB s' ∧ st3 cl [c0, c1, c2, c3, bg s, .d (.lst (fdL f)), t6, t7, t8, t9, t10] = some (.nx [c0, c1, c2, c3, bg s', .d (.lst (fdL f)), .lst (fdL f), .d (.int p), t8, t9, t10]) := by
  have d6 : dvOk 6 := by decide
  have r := tk_rng (s := s) (n := 6) hs (by omega)
  refine ⟨tk s 6, tkS s 6, by omega, tkS_ok hs (by omega), ?_⟩
  simp [st3, bg, takeE cl hs d6]
theorem s4_ok {cl : Nat → Addr} {s : Bg} {c0 c1 c2 c3 t5 t6 t7 t8 t9 t10 : T} (hs : okB s) : ∃ f s', okF f ∧ okB s' ∧ st4 cl [c0, c1, c2, c3, bg s, t5, t6, t7, t8, t9, t10] = some (.nx [c0, c1, c2, c3, bg s', t5, t6, t7, .d (.lst (fdL f)), t9, t10]) := by
  obtain ⟨f, s', hf, hs', e⟩ := fields_ex cl hs
  refine ⟨f, s', hf, hs', ?_⟩
  simp only [bg] at e
  simp [st4, bg, e]
/-- another row of fields -/
theorem s567_ok {cl : Nat → Addr} {f f2 : Fd} {p : Int} {c0 c1 c2 c3 c4 t9 t10 : T} (g : List T → Option O) (hf : okF f) (hf2 : okF f2) (hp : p = 0 ∨ p = 1 ∨ p = 2 ∨ p = 3 ∨ p = 4 ∨ p = 5) : ∃ f3, okF f3 ∧ sSeq (st5 cl) (sSeq (st6 cl) (sSeq (st7 cl) g)) [c0, c1, c2, c3, c4, .d (.lst (fdL f)), .lst (fdL f), .d (.int p), .d (.lst (fdL f2)), t9, t10] = g [c0, c1, c2, c3, c4, .d (.lst (fdL f)), .lst (fdL f3), .d (.int p), .d (.lst (fdL f2)), t9, t10] := by
  obtain ⟨u1, u2, u3, u4, ⟨u5, u6, u7⟩, u8, u9⟩ := id hf
  obtain ⟨v1, v2, v3, v4, ⟨v5, v6, v7⟩, v8, v9⟩ := id hf2
  have w1 : 0 ≤ f.n % NN := Int.emod_nonneg _ (by decide)
  have w2 : f.n % NN < NN := Int.emod_lt_of_pos _ (by decide)
  rcases hp with rfl | rfl | rfl | rfl | rfl | rfl
  · refine ⟨{ f with n := f.n % NN + 1, as := [] }, ⟨by show 1 ≤ f.n % NN + 1; omega, by show f.n % NN + 1 ≤ NN; omega, u3, u4, ⟨by simp, fun a ha => by simp at ha, by simp⟩, u8, u9⟩, ?_⟩
    rw [seq_nx (f := st5 cl) (by simp [st5]; rfl), seq_nx (f := st6 cl) (by simp [st6, fdL, a3, a4, a5, (by decide : 6 ≤ sizeLine), (by decide : 0 ≤ sizeLine)]; rfl), seq_nx (f := st7 cl) (by simp [st7]; rfl)]
    rfl
  · refine ⟨{ f with p := f2.p }, ⟨u1, u2, v3, u4, ⟨u5, u6, u7⟩, u8, u9⟩, ?_⟩
    rw [seq_nx (f := st5 cl) (by simp [st5, fdL, a3, a4, a5, ixN]; rfl), seq_nx (f := st6 cl) (by simp [st6]; rfl), seq_nx (f := st7 cl) (by simp [st7]; rfl)]
    rfl
  · refine ⟨{ f with q := f2.q }, ⟨u1, u2, u3, v4, ⟨u5, u6, u7⟩, u8, u9⟩, ?_⟩
    rw [seq_nx (f := st5 cl) (by simp [st5, fdL, a3, a4, a5, ixN]; rfl), seq_nx (f := st6 cl) (by simp [st6]; rfl), seq_nx (f := st7 cl) (by simp [st7]; rfl)]
    rfl
  · refine ⟨{ f with as := f.as.reverse }, ⟨u1, u2, u3, u4, ⟨List.pairwise_reverse.mpr (u5.imp Ne.symm), fun a ha => u6 a (by simpa using ha), by simpa using u7⟩, u8, u9⟩, ?_⟩
    rw [seq_nx (f := st5 cl) (by simp [st5]; rfl), seq_nx (f := st6 cl) (by simp [st6]; rfl), seq_nx (f := st7 cl) (by simp [st7, fdL, a3, a4, a5, ixN]; rfl)]
    simp [fdL, iL]
  · refine ⟨{ f with sub := f2.sub }, ⟨u1, u2, u3, u4, ⟨u5, u6, u7⟩, v8, u9⟩, ?_⟩
    rw [seq_nx (f := st5 cl) (by simp [st5, fdL, a3, a4, a5, ixN]; rfl), seq_nx (f := st6 cl) (by simp [st6]; rfl), seq_nx (f := st7 cl) (by simp [st7]; rfl)]
    rfl
  · refine ⟨{ f with ws := f2.ws }, ⟨u1, u2, u3, u4, ⟨u5, u6, u7⟩, u8, v9⟩, ?_⟩
    rw [seq_nx (f := st5 cl) (by simp [st5, fdL, a3, a4, a5, ixN]; rfl), seq_nx (f := st6 cl) (by simp [st6]; rfl), seq_nx (f := st7 cl) (by simp [st7]; rfl)]
    rfl
theorem s8_ok {cl : Nat → Addr} {f g : Fd} {c0 c1 c2 c3 c4 t7 t8 t9 t10 : T} (hf : okF f) (hg : okF g) : st8 cl [c0, c1, c2, c3, c4, .d (.lst (fdL f)), .lst (fdL g), t7, t8, t9, t10] = some (.nx [c0, c1, c2, c3, c4, .d (.lst (fdL f)), .lst (fdL g), t7, t8, t9, t10]) := by
  have e1 := letter_ok cl hf
  have e2 := letter_okL cl hg
  have e3 := ownEq_ok cl hf hg
  have e4 := eqFd hf hg
  have e5 : ∀ b : Bool, oNe (.bl b) (.bl b) = some (.bl false) := fun b => by simp
  simp [st8, e1, e2, toDs_mapd, e3, e4, -oEq_app, -oNe_app, e5]
theorem sort2 (a b : Int) : ∃ lo hi, isort [a, b] = [lo, hi] ∧ lo ≤ hi ∧ ((lo = a ∧ hi = b) ∨ (lo = b ∧ hi = a)) := by
  by_cases h : a ≤ b
  · exact ⟨a, b, by simp [isort, List.mergeSort, List.MergeSort.Internal.splitInTwo, List.merge, h], h, .inl ⟨rfl, rfl⟩⟩
  · exact ⟨b, a, by simp [isort, List.mergeSort, List.MergeSort.Internal.splitInTwo, List.merge, h], by omega, .inr ⟨rfl, rfl⟩⟩
theorem s9_ok {cl : Nat → Addr} {s : Bg} {f : Fd} {c0 c1 c2 c3 t6 t7 t8 t9 t10 : T} (hs : okB s) : ∃ (lo hi : Nat) (s' : Bg), lo ≤ hi ∧ hi ≤ 5 ∧ okB s' ∧ st9 cl [c0, c1, c2, c3, bg s, .d (.lst (fdL f)), t6, t7, t8, t9, t10] = some (.nx [c0, c1, c2, c3, bg s', .d (.lst (fdL f)), t6, t7, t8, .lst (fdL f), .d (.lst [.int (lo : Int), .int (hi : Int)])]) := by
  have d6 : dvOk 6 := by decide
  have r := tk_rng (s := s) (n := 6) hs (by omega)
  have h1 := tkS_ok (s := s) (n := 6) hs (by omega)
  have r2 := tk_rng (s := tkS s 6) (n := 6) h1 (by omega)
  have h2 := tkS_ok (s := tkS s 6) (n := 6) h1 (by omega)
  obtain ⟨lo, hi, e, h, hc⟩ := sort2 (tk s 6) (tk (tkS s 6) 6)
  refine ⟨lo.toNat, hi.toNat, tkS (tkS s 6) 6, by omega, by omega, h2, ?_⟩
  have l0 : ((lo.toNat : Nat) : Int) = lo := by omega
  have h0 : ((hi.toNat : Nat) : Int) = hi := by omega
  rw [l0, h0]
  simp [st9, bg, takeE cl hs d6, takeE cl h1 d6, (by decide : 2 ≤ sizeLine), oSortI, allI, e]
end G00

namespace G00
open PySem PySem.Spec PyProof.Rows L2 FD
theorem bad_ex {s : Bg} {x0 : D} {fs : List D} {k : Nat} (cl : Nat → Addr) (hk : k ≤ 5) (h : okB s) (h0 : atI fs 0 = some x0) (hi : ∃ b, oIsi2 x0 (.raw (.ty "int")) = some (.bl b)) : ∃ x s', okB s' ∧ BD cl x0 k x ∧ f_law_bad cl [bg s, .d (.int (k : Int)), .lst fs] = some (.ret (.d x) [bg s', .d (.int (k : Int)), .lst fs]) := by
  have : k = 0 ∨ k = 1 ∨ k = 2 ∨ k = 3 ∨ k = 4 ∨ k = 5 := by omega
  rcases this with rfl | rfl | rfl | rfl | rfl | rfl
  · exact bad0 cl h
  · exact bad1 cl h 1 (.inl rfl)
  · exact bad1 cl h 2 (.inr rfl)
  · exact bad3 cl h h0 hi
  · exact bad4 cl h 4 8 (.inl ⟨rfl, rfl⟩)
  · exact bad4 cl h 5 40 (.inr ⟨rfl, rfl⟩)
theorem fw_of {f : Fd} {cl : Nat → Addr} {lo hi : Nat} {x y : D} (hf : okF f) (h : lo ≤ hi) (h5 : hi ≤ 5) (hx : BD cl (.int f.n) lo x) (hy : lo = hi → BD cl (.int f.n) hi y) : ∃ x0 x1 x2 x3 x4 x5, ((fdL f).set lo x).set hi y = [x0, x1, x2, x3, x4, x5] ∧ FW cl x0 x1 x2 x3 x4 x5 lo := by
  obtain ⟨h1, h2, h3, h4, ⟨h6, h7, h8⟩, ⟨h9, ha⟩, ⟨hb, hc⟩⟩ := hf
  have g0 : N0 cl (.int f.n) true := is_number_ok cl h1 h2
  have g1 : N1 cl (.str (wd f.p)) true := is_name_ok cl h3
  have g2 : N1 cl (.str (wd f.q)) true := is_name_ok cl h4
  have g3 : N3 cl (.lst (iL f.as)) (.int f.n) true := are_answers_ok false true cl h6 h7 h8
  have g4 : N4 cl (.lst (nL f.sub)) 8 true := are_names_ok false true cl h9 (by omega : (f.sub.length : Int) ≤ 8) (by omega)
  have l6 : lo = 0 ∨ lo = 1 ∨ lo = 2 ∨ lo = 3 ∨ lo = 4 ∨ lo = 5 := by omega
  have i6 : hi = 0 ∨ hi = 1 ∨ hi = 2 ∨ hi = 3 ∨ hi = 4 ∨ hi = 5 := by omega
  rcases l6 with rfl | rfl | rfl | rfl | rfl | rfl <;> rcases i6 with rfl | rfl | rfl | rfl | rfl | rfl <;> first
    | (exfalso; omega)
    | (refine ⟨_, _, _, _, _, _, rfl, ?_⟩
       first
         | exact n0_bad hx
         | exact n0_bad (hy rfl)
         | exact ⟨g0, hx⟩
         | exact ⟨g0, hy rfl⟩
         | exact ⟨g0, g1, hx⟩
         | exact ⟨g0, g1, hy rfl⟩
         | exact ⟨g0, g1, g2, hx _ rfl h1 h2⟩
         | exact ⟨g0, g1, g2, hy rfl _ rfl h1 h2⟩
         | exact ⟨g0, g1, g2, g3, hx⟩
         | exact ⟨g0, g1, g2, g3, hy rfl⟩
         | exact ⟨g0, g1, g2, g3, g4, hx⟩
         | exact ⟨g0, g1, g2, g3, g4, hy rfl⟩)
theorem bad_isi {x : D} (h : badN x) : ∃ b, oIsi2 x (.raw (.ty "int")) = some (.bl b) := by
  rcases h with ⟨i, rfl, _⟩ | ⟨b, rfl⟩ | ⟨s, rfl⟩ | rfl | ⟨ds, rfl⟩
  · exact ⟨_, rfl⟩
  · exact ⟨_, rfl⟩
  · exact ⟨_, rfl⟩
  · exact ⟨_, rfl⟩
  · exact ⟨_, rfl⟩
theorem s10_ok {cl : Nat → Addr} {s : Bg} {f : Fd} {lo hi : Nat} {c0 c1 c2 c3 t5 t6 t7 t8 : T} (hf : okF f) (hs : okB s) (h : lo ≤ hi) (h5 : hi ≤ 5) : ∃ x0 x1 x2 x3 x4 x5 s', FW cl x0 x1 x2 x3 x4 x5 lo ∧ okB s' ∧ st10 cl [c0, c1, c2, c3, bg s, t5, t6, t7, t8, .lst (fdL f), .d (.lst [.int (lo : Int), .int (hi : Int)])] = some (.nx [c0, c1, c2, c3, bg s', t5, t6, .d (.int (hi : Int)), t8, .lst [x0, x1, x2, x3, x4, x5], .d (.lst [.int (lo : Int), .int (hi : Int)])]) := by
  obtain ⟨x, s1, hs1, hx, e1⟩ := bad_ex (s := s) (x0 := .int f.n) (fs := fdL f) (k := lo) cl (by omega) hs (by simp [fdL]) ⟨true, rfl⟩
  have h0 : ∃ x0, atI ((fdL f).set lo x) 0 = some x0 ∧ (∃ b, oIsi2 x0 (.raw (.ty "int")) = some (.bl b)) ∧ (lo ≠ 0 → x0 = .int f.n) := by
    cases lo with
    | zero => exact ⟨x, by simp [fdL], bad_isi hx, fun z => absurd rfl z⟩
    | succ k => exact ⟨.int f.n, by simp [fdL], ⟨true, rfl⟩, fun _ => rfl⟩
  obtain ⟨x0', h0, hi0, hx0⟩ := h0
  obtain ⟨y, s2, hs2, hy, e2⟩ := bad_ex (s := s1) (x0 := x0') (fs := (fdL f).set lo x) (k := hi) cl h5 hs1 h0 hi0
  obtain ⟨x0, x1, x2, x3, x4, x5, e3, hw⟩ := fw_of hf h h5 hx (y := y) (fun e => by
    subst e
    by_cases z : lo = 0
    · subst z; exact hy
    · rw [hx0 z] at hy; exact hy)
  refine ⟨x0, x1, x2, x3, x4, x5, s2, hw, hs2, ?_⟩
  have l1 : (fdL f).length = 6 := rfl
  have i1 : ixN 6 (lo : Int) = some lo := by simp [ixN]; omega
  have i2 : ixN 6 (hi : Int) = some hi := by simp [ixN]; omega
  simp only [bg] at e1 e2
  unfold st10
  simp [forS, bg, e1, e2, l1, i1, i2, e3]
theorem names_at (lo : Nat) (h : lo ≤ 5) : atI [D.str (Str.ofString "number"), D.str (Str.ofString "person"), D.str (Str.ofString "house"), D.str (Str.ofString "answers"), D.str (Str.ofString "subject"), D.str (Str.ofString "words")] (lo : Int) = some (.str (nmK lo)) := by
  have l6 : lo = 0 ∨ lo = 1 ∨ lo = 2 ∨ lo = 3 ∨ lo = 4 ∨ lo = 5 := by omega
  rcases l6 with rfl | rfl | rfl | rfl | rfl | rfl <;> rfl
abbrev nmL : D := .lst [D.str (Str.ofString "number"), D.str (Str.ofString "person"), D.str (Str.ofString "house"), D.str (Str.ofString "answers"), D.str (Str.ofString "subject"), D.str (Str.ofString "words")]
theorem s11_ok {cl : Nat → Addr} (hc : okCl cl) {lo : Nat} {x0 x1 x2 x3 x4 x5 : D} {z : D} {c0 c2 c3 c4 t5 t6 t7 t8 : T} (h5 : lo ≤ 5) (hw : FW cl x0 x1 x2 x3 x4 x5 lo) : st11 cl [c0, .d nmL, c2, c3, c4, t5, t6, t7, t8, .lst [x0, x1, x2, x3, x4, x5], .d (.lst [.int (lo : Int), z])] = some (.nx [c0, .d nmL, c2, c3, c4, t5, t6, t7, t8, .lst [x0, x1, x2, x3, x4, x5], .d (.lst [.int (lo : Int), z])]) := by
  simp [st11, refused_bad hc hw, caught_bad hc hw, names_at lo h5]
theorem s12_ok {cl : Nat → Addr} {f : Fd} {c0 c1 c2 c3 c4 t6 t7 t8 t9 t10 : T} (hf : okF f) : st12 cl [c0, c1, c2, c3, c4, .d (.lst (fdL f)), t6, t7, t8, t9, t10] = some (.nx [c0, c1, c2, c3, c4, .d (.lst (fdL f)), t6, t7, t8, t9, t10]) := by
  simp [st12, refused_ok hf, is_made_ok cl hf, are_told_ok cl hf]
/-- one pass of the loop -/
theorem body_ok {cl : Nat → Addr} (hc : okCl cl) {ns : List Int} {i : Int} {c2 t4 t5 t6 t7 t8 t9 t10 : T} (hz : ns.length ≤ 63) (h0 : 0 ≤ i) (h1 : i ≤ 100) : ∃ u4 u5 u6 u7 u8 u9 u10, body cl [.d (.lst (ns.map .int)), .d nmL, c2, .d (.int i), t4, t5, t6, t7, t8, t9, t10] = some (.nx [.d (.lst (ns.map .int)), .d nmL, c2, .d (.int i), u4, u5, u6, u7, u8, u9, u10]) := by
  unfold body
  obtain ⟨s1, k1, e1⟩ := s0_ok (cl := cl) (c1 := .d nmL) (c2 := c2) (t4 := t4) (t5 := t5) (t6 := t6) (t7 := t7) (t8 := t8) (t9 := t9) (t10 := t10) hz h0 h1
  rw [seq_nx e1]
  obtain ⟨f, s2, hf, k2, e2⟩ := s1_ok (cl := cl) k1
  rw [seq_nx e2, seq_nx (s2_ok hf)]
  obtain ⟨p, s3, hp, k3, e3⟩ := s3_ok (cl := cl) (f := f) k2
  rw [seq_nx e3]
  obtain ⟨f2, s4, hf2, k4, e4⟩ := s4_ok (cl := cl) k3
  rw [seq_nx e4]
  obtain ⟨f3, hf3, e5⟩ := s567_ok (cl := cl) (p := p) (c0 := .d (.lst (ns.map .int))) (c1 := .d nmL) (c2 := c2) (c3 := .d (.int i)) (c4 := bg s4) (t9 := t9) (t10 := t10) (sSeq (st8 cl) (sSeq (st9 cl) (sSeq (st10 cl) (sSeq (st11 cl) (st12 cl))))) hf hf2 hp
  rw [e5, seq_nx (s8_ok hf hf3)]
  obtain ⟨lo, hi, s5, hl, hh, k5, e6⟩ := s9_ok (cl := cl) (f := f) k4
  rw [seq_nx e6]
  obtain ⟨x0, x1, x2, x3, x4, x5, s6, hw, k6, e7⟩ := s10_ok (cl := cl) hf k5 hl hh
  rw [seq_nx e7, seq_nx (s11_ok hc (by omega) hw), s12_ok hf]
  exact ⟨_, _, _, _, _, _, _, rfl⟩
end G00

namespace G00
open PySem PySem.Spec PyProof.Rows L2 FD
def f0 : Fd := ⟨5, [97, 110, 110], [111, 97, 107], [], [], []⟩
theorem f0_ok : okF f0 := ⟨by decide, by decide, by decide, by decide, ⟨by decide, fun a ha => by simp [f0] at ha, by decide⟩, ⟨fun a ha => by simp [f0] at ha, by decide⟩, ⟨fun a ha => by simp [f0] at ha, by decide⟩⟩
structure Ls where
  t3 : T
  t4 : T
  t5 : T
  t6 : T
  t7 : T
  t8 : T
  t9 : T
  t10 : T
theorem hl (cl : Nat → Addr) (hc : okCl cl) (ns : List Int) (hz : ns.length <= 63) : ∃ post, f_law cl [.d (.lst (ns.map .int))] = some (.ret (.d (.bl true)) post) := by
  have i1 : f_Letter_init cl [.obj (cl 3) [] [], .d (.int 5), .d (.str (Str.ofString "ann")), .d (.str (Str.ofString "oak")), .d (.tup []), .d (.tup []), .d (.tup [])] = some (.ret (.d .non) [.obj (cl 3) lN ((lD f0).map .d), .d (.int 5), .d (.str (Str.ofString "ann")), .d (.str (Str.ofString "oak")), .d (.tup []), .d (.tup []), .d (.tup [])]) := init_ok cl false false false false false f0_ok
  have i2 : f_Letter_init cl [.obj (cl 3) [] [], .d (.int 5), .d (.str (Str.ofString "ann")), .d (.str (Str.ofString "oak")), .d (.tup []), .d (.tup []), .d (.lst [])] = some (.ret (.d .non) [.obj (cl 3) lN ((lD f0).map .d), .d (.int 5), .d (.str (Str.ofString "ann")), .d (.str (Str.ofString "oak")), .d (.tup []), .d (.tup []), .d (.lst [])]) := init_ok cl false false false false true f0_ok
  have hn := ownNe_ok cl f0_ok f0_ok
  rw [decide_eq_true (show eqF f0 f0 from ⟨rfl, rfl, rfl, rfl, rfl, rfl⟩)] at hn
  have hnm : (["number", "person", "house", "answers", "subject", "words", "sender"] : List Str) = lN := rfl
  have F : ∀ (i : Nat) (x : D), (lD f0)[i]? = some x → ∀ γ : List T, γ[2]? = some (.d (.ins (cl 3) lN (lD f0))) → pFld (cl 3) lN i (pVar 2) γ = some x := fun i x h2 γ h1 => by
    simp [pFld, h1, h2]
  have ne0 : oNe (.tup []) (.tup []) = some (.bl false) := rfl
  obtain ⟨n, hn1, hn2, hr⟩ : ∃ n : Int, 0 ≤ n ∧ n ≤ 3 ∧ ∀ γ : List T, γ[0]? = some (.d (.lst (ns.map .int))) → (iR1 (pOp oMax2 (pC (.int 1)) (pOp oMin2 (pC (.int 3)) (pUn oLen (pVar 0))))) γ = some (intsD 0 n.toNat) := by
    refine ⟨if (1 : Int) < (if (ns.length : Int) < 3 then (ns.length : Int) else 3) then (if (ns.length : Int) < 3 then (ns.length : Int) else 3) else 1, by split <;> (try split) <;> omega, by split <;> (try split) <;> omega, fun γ h => ?_⟩
    simp [h]
    constructor
    · split <;> (try split) <;> omega
    · split <;> (try split) <;> omega
  obtain ⟨x, e1, _⟩ := forS_exM (S := Ls) (fun x => [.d (.lst (ns.map .int)), .d nmL, .d (.ins (cl 3) lN (lD f0)), x.t3, x.t4, x.t5, x.t6, x.t7, x.t8, x.t9, x.t10]) (fun _ => True) (fun d => ∃ i : Int, d = .int i ∧ 0 ≤ i ∧ i ≤ 100) (g := gN 3) (b := body cl) (fun x d hd _ => by
    obtain ⟨i, rfl, h0, h1⟩ := hd
    obtain ⟨u4, u5, u6, u7, u8, u9, u10, e⟩ := body_ok hc (c2 := .d (.ins (cl 3) lN (lD f0))) (t4 := x.t4) (t5 := x.t5) (t6 := x.t6) (t7 := x.t7) (t8 := x.t8) (t9 := x.t9) (t10 := x.t10) hz h0 h1
    exact ⟨⟨_, u4, u5, u6, u7, u8, u9, u10⟩, e, trivial⟩) (intsD 0 n.toNat) ⟨.em, .em, .em, .em, .em, .em, .em, .em⟩ (fun d hd => by
      unfold intsD at hd
      obtain ⟨k, hk, rfl⟩ := List.mem_map.mp hd
      have := List.mem_range.mp hk
      exact ⟨_, rfl, by omega, by omega⟩) trivial
  have e2 : b_law cl [.d (.lst (ns.map .int)), .em, .em, .em, .em, .em, .em, .em, .em, .em, .em] = some (.rt (.d (.bl true)) [.d (.lst (ns.map .int)), .d nmL, .d (.ins (cl 3) lN (lD f0)), x.t3, x.t4, x.t5, x.t6, x.t7, x.t8, x.t9, x.t10]) := by
    unfold b_law
    rw [hnm]
    rw [seq_nx (γ1 := [.d (.lst (ns.map .int)), .d nmL, .em, .em, .em, .em, .em, .em, .em, .em, .em]) (by simp [(by decide : 6 ≤ sizeLine)])]
    rw [seq_nx (γ1 := [.d (.lst (ns.map .int)), .d nmL, .d (.ins (cl 3) lN (lD f0)), .em, .em, .em, .em, .em, .em, .em, .em]) (by simp [eMake, makeF, holes, weave, i1, toDs_mapd])]
    rw [seq_nx (γ1 := [.d (.lst (ns.map .int)), .d nmL, .d (.ins (cl 3) lN (lD f0)), .em, .em, .em, .em, .em, .em, .em, .em]) (by simp [-oNe_app, F 3 (.tup []) rfl, F 4 (.tup []) rfl, F 5 (.tup []) rfl, eMake, makeF, holes, weave, i2, toDs_mapd, ne0, hn, (by decide : 0 ≤ sizeLine)])]
    show sSeq (sFor (iP (iR1 (pOp oMax2 (pC (.int 1)) (pOp oMin2 (pC (.int 3)) (pUn oLen (pVar 0)))))) (gN 3) (body cl)) (sRet (eP (pC (.bl true)))) [.d (.lst (ns.map .int)), .d nmL, .d (.ins (cl 3) lN (lD f0)), .em, .em, .em, .em, .em, .em, .em, .em] = _
    rw [seq_nx (f := sFor (iP (iR1 (pOp oMax2 (pC (.int 1)) (pOp oMin2 (pC (.int 3)) (pUn oLen (pVar 0)))))) (gN 3) (body cl)) (γ1 := [.d (.lst (ns.map .int)), .d nmL, .d (.ins (cl 3) lN (lD f0)), x.t3, x.t4, x.t5, x.t6, x.t7, x.t8, x.t9, x.t10]) (by
      rw [sFor_app, iP_app, hr [.d (.lst (ns.map .int)), .d nmL, .d (.ins (cl 3) lN (lD f0)), .em, .em, .em, .em, .em, .em, .em, .em] rfl]
      exact e1)]
    rfl
  refine ⟨postP [.d (.lst (ns.map .int))] [.d (.lst (ns.map .int)), .d nmL, .d (.ins (cl 3) lN (lD f0)), x.t3, x.t4, x.t5, x.t6, x.t7, x.t8, x.t9, x.t10], ?_⟩
  unfold f_law
  rw [fnF_app, if_pos ⟨rfl, by rfl⟩]
  show (b_law cl [.d (.lst (ns.map .int)), .em, .em, .em, .em, .em, .em, .em, .em, .em, .em]).bind _ = _
  rw [e2]
  rfl
end G00

open PySem PySem.W PyProof.Rows FD
set_option maxHeartbeats 0 in
theorem PySem.Challenge.cw_filedalike_k00_letters_made_and_refused_holds : PySem.Challenge.rw_filedalike_k00_letters_made_and_refused.Holds := by
  w_on; o_law; k_head; (case hw => w_witness2)
  k_fill
  refine L2.walk_ofK (l := PySem.Challenge.rw_filedalike_k00_letters_made_and_refused) (n := 63) (k := 8) (x := "_law_script") (CX := L2.CX0) (sp := G00.spLaw) rfl (by decide) rfl ⟨rfl, by decide, by decide⟩ (fun w h Y => PySem.W.kIn_of Y) ?F (fun K H a ns hz _ hS cl hc => G00.sp_here cl (G00.hl cl hc) hz hS) (fun _ _ _ _ h => h)
  case F =>
    intro w mg fa h KX G hmg
    refine' (G00.all_mk KX G hmg ?aC_MailError ?aC_Clash ?aC_BadLetter ?aC_Letter ?a_law_bag ?l_law_bag ?cd_in_law_bag ?kp_law_bag ?a_law_take ?l_law_take ?cd_in_law_take ?kp_law_take ?a_law_name ?l_law_name ?cd_in_law_name ?kp_law_name ?a_law_names ?l_law_names ?cd_in_law_names ?kp_law_names ?a_law_number ?l_law_number ?cd_in_law_number ?kp_law_number ?a_law_answers ?l_law_answers ?cd_in_law_answers ?kp_law_answers ?a_law_fields ?l_law_fields ?cd_in_law_fields ?kp_law_fields ?a_is_name ?l_is_name ?cd_in_is_name ?kp_is_name ?a_is_number ?l_is_number ?cd_in_is_number ?kp_is_number ?a_are_names ?l_are_names ?cd_in_are_names ?kp_are_names ?a_are_answers ?l_are_answers ?cd_in_are_answers ?kp_are_answers ?a_wrong_field ?l_wrong_field ?cd_in_wrong_field ?kp_wrong_field ?a_Letter_init ?i_Letter_init ?l_Letter_init ?cd_in_Letter_init ?kp_Letter_init ?ns_Letter_answers ?tp_Letter_answers ?ns_Letter_subject ?tp_Letter_subject ?ns_Letter_words ?tp_Letter_words ?a_Letter_eq ?i_Letter_eq ?l_Letter_eq ?cd_in_Letter_eq ?kp_Letter_eq ?a_law_letter ?l_law_letter ?cd_in_law_letter ?kp_law_letter ?a_law_caught ?l_law_caught ?cd_in_law_caught ?kp_law_caught ?a_law_refused ?l_law_refused ?cd_in_law_refused ?kp_law_refused ?a_law_are_told ?l_law_are_told ?cd_in_law_are_told ?kp_law_are_told ?a_law_is_made ?l_law_is_made ?cd_in_law_is_made ?kp_law_is_made ?a_law_bad ?l_law_bad ?cd_in_law_bad ?kp_law_bad ?a_law ?l_law ?cd_in_law ?kp_law ?a_BadLetter_init ?l_BadLetter_init ?cd_in_BadLetter_init ?lc_BadLetter_init ?lf_BadLetter_init ?lm_BadLetter_init ?lx_BadLetter_init ?lk_BadLetter_init ?lb_BadLetter_init ?mr_BadLetter_init ?fb_BadLetter_init ?sD_BadLetter_init ?sV_BadLetter_init ?tf_BadLetter_init ?ex_BadLetter_init ?rv_BadLetter_init ?es_BadLetter_init ?eb_BadLetter_init ?et_BadLetter_init ?ek_BadLetter_init ?ef_BadLetter_init_field ?stat ?smain ?z_super ?pg_Letter ?hd_Letter ?po_Letter ?sa_Letter ?nf_Letter_number ?nf_Letter_person ?nf_Letter_house ?nf_Letter_answers ?nf_Letter_subject ?nf_Letter_words ?nf_Letter_sender ?mk_Letter ?kc_Letter ?ca_Letter ?ct_Letter ?cm_Letter ?ic_Letter ?ty_Letter ?cn_Letter ?ne_Letter ?ob_Letter ?z_abs ?z_enumerate ?z_int ?z_len ?z_range ?z_all ?z_isinstance ?z_str ?v_LONGEST_NAME ?z_bool ?v_GREATEST_NUMBER ?z_list ?z_tuple ?z_set ?v_MOST_ANSWERS ?v_MOST_SUBJECT ?v_MOST_WORDS ?ys_xm_MailError_MailError ?yb_MailError ?yh_MailError ?yt_MailError ?ys_xm_Clash_MailError ?ys_xm_BadLetter_MailError ?ys_xm_MailError_BadLetter ?yb_BadLetter ?yh_BadLetter ?yt_BadLetter ?ys_xm_Clash_BadLetter ?ys_xm_BadLetter_BadLetter ?ga_xf_BadLetter ?gg_xf_BadLetter ?gb_xf_BadLetter ?gh_xf_BadLetter ?qxn_BadLetter_field ?ys_xm_MailError_Clash ?yb_Clash ?yh_Clash ?yt_Clash ?ys_xm_Clash_Clash ?ys_xm_BadLetter_Clash ?z_any ?z_max ?z_min ?z_sorted).imp fun fd h => ⟨h.1, fun base hK hg => G00.law_sp ?okc (h.2 base hK hg)⟩
    (case aC_MailError => k_is)
    (case aC_Clash => k_is)
    (case aC_BadLetter => k_is)
    (case aC_Letter => k_is)
    (case a_law_bag => k_is)
    (case l_law_bag => k_is)
    (case cd_in_law_bag => k_is)
    (case kp_law_bag => k_is)
    (case a_law_take => k_is)
    (case l_law_take => k_is)
    (case cd_in_law_take => k_is)
    (case kp_law_take => k_is)
    (case a_law_name => k_is)
    (case l_law_name => k_is)
    (case cd_in_law_name => k_is)
    (case kp_law_name => k_is)
    (case a_law_names => k_is)
    (case l_law_names => k_is)
    (case cd_in_law_names => k_is)
    (case kp_law_names => k_is)
    (case a_law_number => k_is)
    (case l_law_number => k_is)
    (case cd_in_law_number => k_is)
    (case kp_law_number => k_is)
    (case a_law_answers => k_is)
    (case l_law_answers => k_is)
    (case cd_in_law_answers => k_is)
    (case kp_law_answers => k_is)
    (case a_law_fields => k_is)
    (case l_law_fields => k_is)
    (case cd_in_law_fields => k_is)
    (case kp_law_fields => k_is)
    (case a_is_name => k_is)
    (case l_is_name => k_is)
    (case cd_in_is_name => k_is)
    (case kp_is_name => k_is)
    (case a_is_number => k_is)
    (case l_is_number => k_is)
    (case cd_in_is_number => k_is)
    (case kp_is_number => k_is)
    (case a_are_names => k_is)
    (case l_are_names => k_is)
    (case cd_in_are_names => k_is)
    (case kp_are_names => k_is)
    (case a_are_answers => k_is)
    (case l_are_answers => k_is)
    (case cd_in_are_answers => k_is)
    (case kp_are_answers => k_is)
    (case a_wrong_field => k_is)
    (case l_wrong_field => k_is)
    (case cd_in_wrong_field => k_is)
    (case kp_wrong_field => k_is)
    (case a_Letter_init => k_is)
    (case i_Letter_init => k_is)
    (case l_Letter_init => k_is)
    (case cd_in_Letter_init => k_is)
    (case kp_Letter_init => k_is)
    (case ns_Letter_answers => k_is)
    (case tp_Letter_answers => k_is)
    (case ns_Letter_subject => k_is)
    (case tp_Letter_subject => k_is)
    (case ns_Letter_words => k_is)
    (case tp_Letter_words => k_is)
    (case a_Letter_eq => k_is)
    (case i_Letter_eq => k_is)
    (case l_Letter_eq => k_is)
    (case cd_in_Letter_eq => k_is)
    (case kp_Letter_eq => k_is)
    (case a_law_letter => k_is)
    (case l_law_letter => k_is)
    (case cd_in_law_letter => k_is)
    (case kp_law_letter => k_is)
    (case a_law_caught => k_is)
    (case l_law_caught => k_is)
    (case cd_in_law_caught => k_is)
    (case kp_law_caught => k_is)
    (case a_law_refused => k_is)
    (case l_law_refused => k_is)
    (case cd_in_law_refused => k_is)
    (case kp_law_refused => k_is)
    (case a_law_are_told => k_is)
    (case l_law_are_told => k_is)
    (case cd_in_law_are_told => k_is)
    (case kp_law_are_told => k_is)
    (case a_law_is_made => k_is)
    (case l_law_is_made => k_is)
    (case cd_in_law_is_made => k_is)
    (case kp_law_is_made => k_is)
    (case a_law_bad => k_is)
    (case l_law_bad => k_is)
    (case cd_in_law_bad => k_is)
    (case kp_law_bad => k_is)
    (case a_law => k_is)
    (case l_law => k_is)
    (case cd_in_law => k_is)
    (case kp_law => k_is)
    (case a_BadLetter_init => k_is)
    (case l_BadLetter_init => k_is)
    (case cd_in_BadLetter_init => k_is)
    (case lc_BadLetter_init => k_is)
    (case lf_BadLetter_init => rfl)
    (case lm_BadLetter_init => rfl)
    (case lx_BadLetter_init => k_is)
    (case lk_BadLetter_init => k_is)
    (case lb_BadLetter_init => k_is)
    (case mr_BadLetter_init => rfl)
    (case fb_BadLetter_init => k_is)
    (case sD_BadLetter_init => k_is)
    (case sV_BadLetter_init => k_is)
    (case tf_BadLetter_init => k_is)
    (case ex_BadLetter_init => k_is)
    (case rv_BadLetter_init => rfl)
    (case es_BadLetter_init => k_is)
    (case eb_BadLetter_init => k_is)
    (case et_BadLetter_init => k_is)
    (case ek_BadLetter_init => k_is)
    (case ef_BadLetter_init_field => k_is)
    (case stat => k_is)
    (case smain => rfl)
    (case z_super => k_is)
    (case pg_Letter => k_is)
    (case hd_Letter => k_is)
    (case po_Letter => k_is)
    (case sa_Letter => k_is)
    (case nf_Letter_number => k_is)
    (case nf_Letter_person => k_is)
    (case nf_Letter_house => k_is)
    (case nf_Letter_answers => k_is)
    (case nf_Letter_subject => k_is)
    (case nf_Letter_words => k_is)
    (case nf_Letter_sender => k_is)
    (case mk_Letter => k_is)
    (case kc_Letter => k_is)
    (case ca_Letter => k_is)
    (case ct_Letter => k_is)
    (case cm_Letter => k_is)
    (case ic_Letter => k_is)
    (case ty_Letter => k_is)
    (case cn_Letter => k_is)
    (case ne_Letter => k_is)
    (case ob_Letter => k_is)
    (case z_abs => k_is)
    (case z_enumerate => k_is)
    (case z_int => k_is)
    (case z_len => k_is)
    (case z_range => k_is)
    (case z_all => k_is)
    (case z_isinstance => k_is)
    (case z_str => k_is)
    (case v_LONGEST_NAME => k_is)
    (case z_bool => k_is)
    (case v_GREATEST_NUMBER => k_is)
    (case z_list => k_is)
    (case z_tuple => k_is)
    (case z_set => k_is)
    (case v_MOST_ANSWERS => k_is)
    (case v_MOST_SUBJECT => k_is)
    (case v_MOST_WORDS => k_is)
    (case ys_xm_MailError_MailError => k_is)
    (case yb_MailError => k_is)
    (case yh_MailError => k_is)
    (case yt_MailError => k_is)
    (case ys_xm_Clash_MailError => k_is)
    (case ys_xm_BadLetter_MailError => k_is)
    (case ys_xm_MailError_BadLetter => k_is)
    (case yb_BadLetter => k_is)
    (case yh_BadLetter => k_is)
    (case yt_BadLetter => k_is)
    (case ys_xm_Clash_BadLetter => k_is)
    (case ys_xm_BadLetter_BadLetter => k_is)
    (case ga_xf_BadLetter => k_is)
    (case gg_xf_BadLetter => k_is)
    (case gb_xf_BadLetter => k_is)
    (case gh_xf_BadLetter => k_is)
    (case qxn_BadLetter_field => k_is)
    (case ys_xm_MailError_Clash => k_is)
    (case yb_Clash => k_is)
    (case yh_Clash => k_is)
    (case yt_Clash => k_is)
    (case ys_xm_Clash_Clash => k_is)
    (case ys_xm_BadLetter_Clash => k_is)
    (case z_any => k_is)
    (case z_max => k_is)
    (case z_min => k_is)
    (case z_sorted => k_is)
    (case okc => unfold G00.okCl; decide)


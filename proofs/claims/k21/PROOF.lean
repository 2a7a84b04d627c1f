import PyProof.Rows.All
import Wide.All
import OpenK.AllK
import Wide.FinOn
import PySem.Challenge.RW_filedalike_k21_standings_of_senders
import HandS.ForMost
import HandS.Deep
import HandS.Style
import HandS.Flow
import HandS.Walk
import HandS.Wide
import HandS.IsInst
import HandS.TupAny
import HandS.Text
import HandS.FStr
import HandS.Star
import HandS.Defaults
import HandS.MakeKwOnly
import HandS.DictEq
import HandS.DeepEq
import HandS.TupLe
import KE.KEqDict
import KE.DataMinMax
import HandS.More
import HandS.SortInts
import HandS.SlotsOwn
import HandS.Steps
import HandS.DictTup
import KE.SortData
import HandS.ExcInit
import HandS.Nested
import KE.KSuper
import KE.KSuperObj
import KE.KExcSuper
import HandS.ExcOwn
import HandS.WordsExc
import HandS.TryOnly
import HandS.ExcField
import HandS.TupSets
import HandS.SetFor
import HandS.Dict
import HandS.Keys
import HandS.TryMany
import HandS.ExcIs
import KE.KCallOwn
import HandS.RaiseMore
import PyProof.Rows.SetFrom
import HandS.SetKeys
import HandS.ClsMeth
import PyProof.TupleOfSeq
import PyProof.StrBlock2
import HandS.Set
import HandS.ReplaceLit
import HandS.ReplaceList
set_option Elab.async false
set_option linter.all false
set_option maxRecDepth 100000
namespace FD
open PySem PySem.Spec PyProof.Rows L2
abbrev Sg := List (Option V)
inductive D where
  | non | bl (b : Bool) | int (i : Int) | str (x : Str)
  | lst (ds : List D) | tup (ds : List D)
  | dic (ks : List Key) (ds : List D)
  | ins (C : Addr) (ns : List Str) (ds : List D)
  | raw (v : V)
def Ex (H H' : Hp) : Prop := ∀ a o, H a = some o → H' a = some o
theorem Ex.refl (H : Hp) : Ex H H := fun _ _ h => h
theorem Ex.trans {H H1 H2 : Hp} (a : Ex H H1) (b : Ex H1 H2) : Ex H H2 := fun x o h => b x o (a x o h)
theorem Ex.new {H : Hp} {p : Addr} {o : HO} (h : H p = none) : Ex H (upd H p o) := fun a u e => by
  rw [upd_ne (ne_of_none e h)]
  exact e
theorem Ex.back {H H' : Hp} {p : Addr} (e : Ex H H') (h : H' p = none) : H p = none := by
  cases h1 : H p with
  | none => rfl
  | some o =>
    rw [e p o h1] at h
    cases h
theorem Ex.upd2 {H H' : Hp} {p : Addr} {o : HO} (e : Ex H H') (h : H' p = none) : Ex (upd H p o) (upd H' p o) := fun a u q => by
  by_cases hp : a = p
  · subst hp; rw [upd_same] at q ⊢; exact q
  · rw [upd_ne hp] at q ⊢; exact e a u q
theorem Ex.rd {H H' : Hp} {a : Addr} {u : HO} (e : Ex H H') (h : Rd H a u) : Rd H' a u := by
  rcases h with h | ⟨o, h⟩
  · exact Or.inl (e a _ h)
  · exact Or.inr ⟨o, e a _ h⟩
theorem Ex.l {K : PySem.W.Frag} {H H' : Hp} {a : Addr} {xs : List V} (e : Ex H H') (h : SqL K H a xs) : SqL K H' a xs := by
  rcases h with h | h
  · exact Or.inl (e.rd h)
  · exact Or.inr h
theorem Ex.t {K : PySem.W.Frag} {H H' : Hp} {a : Addr} {xs : List V} (e : Ex H H') (h : SqT K H a xs) : SqT K H' a xs := by
  rcases h with h | h
  · exact Or.inl (e.rd h)
  · exact Or.inr h
theorem sq_of {K : PySem.W.Frag} {H : Hp} {a : Addr} {xs : List V} (h : H a = some (.lst xs)) : SqL K H a xs := Or.inl (Or.inl h)
theorem st_of {K : PySem.W.Frag} {H : Hp} {a : Addr} {xs : List V} (h : H a = some (.tup xs)) : SqT K H a xs := Or.inl (Or.inl h)
mutual
inductive Is (K : PySem.W.Frag) (I : Hp) : V → D → Prop
  | non : Is K I .non .non
  | bl (b : Bool) : Is K I (.bl b) (.bl b)
  | int (i : Int) : Is K I (.int i) (.int i)
  | str (x : Str) : Is K I (.str x) (.str x)
  | lst {a : Addr} {xs : List V} {ds : List D} : SqL K I a xs → IsA K I xs ds → Is K I (.ref a) (.lst ds)
  | tup {a : Addr} {xs : List V} {ds : List D} : SqT K I a xs → IsA K I xs ds → Is K I (.ref a) (.tup ds)
  | dic {a : Addr} {kvs : List (Key × V)} {ks : List Key} {ds : List D} : Rd I a (.dK kvs) → ks = kvs.map (·.1) → IsA K I (kvs.map (·.2)) ds → Is K I (.ref a) (.dic ks ds)
  | ins {a C dx : Addr} {fs : List (Str × V)} {ns : List Str} {ds : List D} : I a = some (.ins C dx fs) → ns = fs.map (·.1) → IsA K I (fs.map (·.2)) ds → Is K I (.ref a) (.ins C ns ds)
  | raw (v : V) : Is K I v (.raw v)
inductive IsA (K : PySem.W.Frag) (I : Hp) : List V → List D → Prop
  | nil : IsA K I [] []
  | cons {v : V} {vs : List V} {d : D} {ds : List D} : Is K I v d → IsA K I vs ds → IsA K I (v :: vs) (d :: ds)
end
section
variable {K : PySem.W.Frag} {I I' : Hp}
mutual
theorem Is.mono (e : Ex I I') : ∀ {d : D} {v : V}, Is K I v d → Is K I' v d
  | .non, _, h => by cases h; exact .non
  | .bl _, _, h => by cases h; exact .bl _
  | .int _, _, h => by cases h; exact .int _
  | .str _, _, h => by cases h; exact .str _
  | .lst ds, _, h => by
    cases h with
    | lst h1 h2 => exact .lst (e.l h1) (IsA.mono e h2)
  | .tup ds, _, h => by
    cases h with
    | tup h1 h2 => exact .tup (e.t h1) (IsA.mono e h2)
  | .dic ks ds, _, h => by
    cases h with
    | dic h1 h2 h3 => exact .dic (e.rd h1) h2 (IsA.mono e h3)
  | .ins C ns ds, _, h => by
    cases h with
    | ins h1 h2 h3 => exact .ins (e _ _ h1) h2 (IsA.mono e h3)
  | .raw _, _, h => by cases h; exact .raw _
theorem IsA.mono (e : Ex I I') : ∀ {ds : List D} {vs : List V}, IsA K I vs ds → IsA K I' vs ds
  | [], _, h => by cases h; exact .nil
  | d :: ds, _, h => by
    cases h with
    | cons h1 h2 => exact .cons (Is.mono e h1) (IsA.mono e h2)
end
theorem IsA.length : ∀ {ds : List D} {vs : List V}, IsA K I vs ds → vs.length = ds.length
  | [], _, h => by cases h; rfl
  | d :: ds, _, h => by
    cases h with
    | cons h1 h2 => simp [IsA.length h2]
theorem IsA.get : ∀ {ds : List D} {vs : List V} {i : Nat} {v : V}, IsA K I vs ds → vs[i]? = some v → ∃ d, ds[i]? = some d ∧ Is K I v d
  | [], _, i, v, h, e => by cases h; simp at e
  | d :: ds, _, 0, v, h, e => by
    cases h with
    | cons h1 h2 => simp at e; subst e; exact ⟨d, rfl, h1⟩
  | d :: ds, _, i + 1, v, h, e => by
    cases h with
    | cons h1 h2 =>
      obtain ⟨d', q, r⟩ := IsA.get (i := i) h2 (by simpa using e)
      exact ⟨d', by simpa using q, r⟩
theorem IsA.getD : ∀ {ds : List D} {vs : List V} {i : Nat} {d : D}, IsA K I vs ds → ds[i]? = some d → ∃ v, vs[i]? = some v ∧ Is K I v d := fun {ds vs i d} h e => by
  have hl := h.length
  obtain ⟨hi, e1⟩ := List.getElem?_eq_some_iff.mp e
  obtain ⟨d', q, r⟩ := IsA.get (i := i) (v := vs[i]'(by omega)) h (List.getElem?_eq_getElem (by omega))
  rw [e] at q
  cases q
  exact ⟨_, List.getElem?_eq_getElem (by omega), r⟩
theorem IsA.append : ∀ {ds es : List D} {vs ws : List V}, IsA K I vs ds → IsA K I ws es → IsA K I (vs ++ ws) (ds ++ es)
  | [], es, _, ws, h, h' => by cases h; exact h'
  | d :: ds, es, _, ws, h, h' => by
    cases h with
    | cons h1 h2 => exact .cons h1 (IsA.append h2 h')
theorem IsA.take : ∀ {ds : List D} {vs : List V} (n : Nat), IsA K I vs ds → IsA K I (vs.take n) (ds.take n)
  | _, _, 0, _ => by simp; exact .nil
  | [], _, n + 1, h => by cases h; exact .nil
  | d :: ds, _, n + 1, h => by
    cases h with
    | cons h1 h2 => exact .cons h1 (IsA.take n h2)
theorem IsA.drop : ∀ {ds : List D} {vs : List V} (n : Nat), IsA K I vs ds → IsA K I (vs.drop n) (ds.drop n)
  | _, _, 0, h => h
  | [], _, n + 1, h => by cases h; exact .nil
  | d :: ds, _, n + 1, h => by
    cases h with
    | cons h1 h2 => exact IsA.drop n h2
theorem IsA.set : ∀ {ds : List D} {vs : List V} (n : Nat) {v : V} {d : D}, IsA K I vs ds → Is K I v d → IsA K I (vs.set n v) (ds.set n d)
  | [], _, _, _, _, h, _ => by cases h; exact .nil
  | d :: ds, _, 0, _, _, h, q => by
    cases h with
    | cons h1 h2 => exact .cons q h2
  | d :: ds, _, n + 1, _, _, h, q => by
    cases h with
    | cons h1 h2 => exact .cons h1 (IsA.set n h2 q)
theorem IsA.reverse : ∀ {ds : List D} {vs : List V}, IsA K I vs ds → IsA K I vs.reverse ds.reverse
  | [], _, h => by cases h; exact .nil
  | d :: ds, _, h => by
    cases h with
    | cons h1 h2 =>
      rw [List.reverse_cons, List.reverse_cons]
      exact IsA.append (IsA.reverse h2) (.cons h1 .nil)
end
structure Res where
  P : Hp → V → Hp → List Addr → Prop
  mono : ∀ {I I' : Hp} {v : V} {H : Hp} {L : List Addr}, Ex I I' → P I v H L → P I' v H L
  frame : ∀ {I : Hp} {v : V} {H H' : Hp} {L : List Addr}, (∀ a ∈ L, H' a = H a) → P I v H L → P I v H' L
  live : ∀ {I : Hp} {v : V} {H : Hp} {L : List Addr}, P I v H L → ∀ a ∈ L, H a ≠ none
/-- a list of data that may be changed -/
def Rlst (K : PySem.W.Frag) (ds : List D) : Res where
  P I v H L := ∃ a xs, v = .ref a ∧ L = [a] ∧ H a = some (.lst xs) ∧ IsA K I xs ds
  mono e h := by
    obtain ⟨a, xs, h1, h2, h3, h4⟩ := h
    exact ⟨a, xs, h1, h2, h3, IsA.mono e h4⟩
  frame f h := by
    obtain ⟨a, xs, h1, h2, h3, h4⟩ := h
    subst h2
    exact ⟨a, xs, h1, rfl, (f a (by simp)).trans h3, h4⟩
  live h := by
    obtain ⟨a, xs, h1, h2, h3, h4⟩ := h
    subst h2
    intro b hb
    simp at hb
    subst hb
    rw [h3]
    exact fun z => nomatch z
/-- what a slot holds: not told | data | a resource, its value -/
inductive Sl where
  | em | dat (d : D) | res (v : V) (R : Res)
inductive EnvOk (K : PySem.W.Frag) (I H : Hp) : List Sl → Sg → List Addr → Prop
  | nil : EnvOk K I H [] [] []
  | em {Γ : List Sl} {σ : Sg} {L : List Addr} (x : Option V) : EnvOk K I H Γ σ L → EnvOk K I H (.em :: Γ) (x :: σ) L
  | dat {Γ : List Sl} {σ : Sg} {L : List Addr} {v : V} {d : D} : Is K I v d → EnvOk K I H Γ σ L → EnvOk K I H (.dat d :: Γ) (some v :: σ) L
  | res {Γ : List Sl} {σ : Sg} {L1 L2 : List Addr} {v : V} {R : Res} : R.P I v H L1 → EnvOk K I H Γ σ L2 → EnvOk K I H (.res v R :: Γ) (some v :: σ) (L1 ++ L2)
structure Wd (K : PySem.W.Frag) (Γ : List Sl) (σ : Sg) (I H : Hp) (L : List Addr) : Prop where
  env : EnvOk K I H Γ σ L
  nd : L.Nodup
  fr : ∀ a ∈ L, I a = none
  sub : Ex I H
structure Step (I H : Hp) (L : List Addr) (I' H' : Hp) (L' : List Addr) : Prop where
  i : Ex I I'
  keep : ∀ a o, H a = some o → a ∉ L → H' a = some o
  l : ∀ a ∈ L', a ∈ L ∨ H a = none
  n : ∀ a o, I' a = some o → I a = some o ∨ a ∈ L ∨ H a = none
structure New (I H I' H' : Hp) : Prop where
  i : Ex I I'
  h : Ex H H'
  n : ∀ a o, I' a = some o → I a = some o ∨ H a = none
theorem New.refl (I H : Hp) : New I H I H := ⟨Ex.refl I, Ex.refl H, fun _ _ h => .inl h⟩
theorem New.trans {I H I1 H1 I2 H2 : Hp} (a : New I H I1 H1) (b : New I1 H1 I2 H2) : New I H I2 H2 := ⟨a.i.trans b.i, a.h.trans b.h, fun x o h => by
  rcases b.n x o h with h | h
  · exact a.n x o h
  · exact .inr (a.h.back h)⟩
theorem New.step {I H I' H' : Hp} (a : New I H I' H') (L : List Addr) : Step I H L I' H' L := ⟨a.i, fun x o h _ => a.h x o h, fun x h => .inl h, fun x o h => (a.n x o h).elim .inl fun z => .inr (.inr z)⟩
theorem Step.refl (I H : Hp) (L : List Addr) : Step I H L I H L := (New.refl I H).step L
theorem Step.trans {I H I1 H1 I2 H2 : Hp} {L L1 L2 : List Addr} (a : Step I H L I1 H1 L1) (b : Step I1 H1 L1 I2 H2 L2) : Step I H L I2 H2 L2 where
  i := a.i.trans b.i
  keep x o h hl := b.keep x o (a.keep x o h hl) fun z => (a.l x z).elim hl fun q => by rw [h] at q; cases q
  l x h := (b.l x h).elim (a.l x) fun q => by
    by_cases hl : x ∈ L
    · exact .inl hl
    · cases e : H x with
      | none => exact .inr rfl
      | some o =>
        rw [a.keep x o e hl] at q
        cases q
  n x o h := by
    rcases b.n x o h with h | h | h
    · exact a.n x o h
    · exact .inr (a.l x h)
    · by_cases hl : x ∈ L
      · exact .inr (.inl hl)
      · cases e : H x with
        | none => exact .inr (.inr rfl)
        | some o =>
          rw [a.keep x o e hl] at h
          cases h
section
variable {K : PySem.W.Frag} {Γ Γ' : List Sl} {σ : Sg} {I H I' H' : Hp} {L L' : List Addr}
theorem EnvOk.live : ∀ {Γ : List Sl} {σ : Sg} {L : List Addr}, EnvOk K I H Γ σ L → ∀ a ∈ L, H a ≠ none
  | _, _, _, .nil, _, h => by simp at h
  | _, _, _, .em _ e, a, h => e.live a h
  | _, _, _, .dat _ e, a, h => e.live a h
  | _, _, _, .res (R := R) p e, a, h => (List.mem_append.mp h).elim (R.live p a) (e.live a)
theorem EnvOk.len : ∀ {Γ : List Sl} {σ : Sg} {L : List Addr}, EnvOk K I H Γ σ L → Γ.length = σ.length
  | _, _, _, .nil => rfl
  | _, _, _, .em _ e => by simp [e.len]
  | _, _, _, .dat _ e => by simp [e.len]
  | _, _, _, .res _ e => by simp [e.len]
theorem EnvOk.keep (e : Ex I I') : ∀ {Γ : List Sl} {σ : Sg} {L : List Addr}, (∀ a ∈ L, H' a = H a) → EnvOk K I H Γ σ L → EnvOk K I' H' Γ σ L
  | _, _, _, _, .nil => .nil
  | _, _, _, k, .em _ q => .em _ (q.keep e k)
  | _, _, _, k, .dat p q => .dat (p.mono e) (q.keep e k)
  | _, _, _, k, .res (R := R) p q => .res (R.mono e (R.frame (fun a h => k a (List.mem_append_left _ h)) p)) (q.keep e fun a h => k a (List.mem_append_right _ h))
theorem Wd.live (w : Wd K Γ σ I H L) : ∀ a ∈ L, H a ≠ none := w.env.live
theorem Wd.new (w : Wd K Γ σ I H L) (n : New I H I' H') (s : Ex I' H') : Wd K Γ σ I' H' L where
  env := w.env.keep n.i fun a h => by
    cases e : H a with
    | none => exact absurd e (w.live a h)
    | some o => exact n.h a o e
  nd := w.nd
  fr a h := by
    cases e : I' a with
    | none => rfl
    | some o =>
      rcases n.n a o e with q | q
      · rw [w.fr a h] at q; cases q
      · exact absurd q (w.live a h)
  sub := s
/-- reading a data slot -/
theorem EnvOk.get : ∀ {Γ : List Sl} {σ : Sg} {L : List Addr} {i : Nat} {d : D}, EnvOk K I H Γ σ L → Γ[i]? = some (.dat d) → ∃ v, σ[i]? = some (some v) ∧ Is K I v d
  | _, _, _, _, _, .nil, h => by simp at h
  | _, _, _, 0, _, .em _ _, h => by simp at h
  | _, _, _, 0, _, .dat p _, h => by simp at h; subst h; exact ⟨_, rfl, p⟩
  | _, _, _, 0, _, .res _ _, h => by simp at h
  | _, _, _, i + 1, d, .em _ e, h => by simpa using EnvOk.get (i := i) (d := d) e (by simpa using h)
  | _, _, _, i + 1, d, .dat _ e, h => by simpa using EnvOk.get (i := i) (d := d) e (by simpa using h)
  | _, _, _, i + 1, d, .res _ e, h => by simpa using EnvOk.get (i := i) (d := d) e (by simpa using h)
/-- a resource slot taken out: what stands around it -/
theorem EnvOk.getR : ∀ {Γ : List Sl} {σ : Sg} {L : List Addr} {i : Nat} {v : V} {R : Res}, EnvOk K I H Γ σ L → Γ[i]? = some (.res v R) → σ[i]? = some (some v) ∧ ∃ L1 Li L2, L = L1 ++ (Li ++ L2) ∧ R.P I v H Li ∧
    ∀ (I' H' : Hp) (R' : Res) (Li' : List Addr), Ex I I' → (∀ a, a ∈ L1 ++ L2 → H' a = H a) → R'.P I' v H' Li' → EnvOk K I' H' (Γ.set i (.res v R')) σ (L1 ++ (Li' ++ L2))
  | _, _, _, _, _, _, .nil, h => by simp at h
  | _, _, _, 0, _, _, .em _ _, h => by simp at h
  | _, _, _, 0, _, _, .dat p _, h => by simp at h
  | _, _, _, 0, _, _, .res (L1 := Li) (L2 := L2) p e, h => by
    simp at h
    obtain ⟨rfl, rfl⟩ := h
    exact ⟨rfl, [], Li, L2, rfl, p, fun I' H' R' Li' ei k q => (EnvOk.res (L1 := Li') (L2 := L2) q (e.keep ei fun a h => k a (by simpa using h)) : EnvOk K I' H' _ _ (Li' ++ L2))⟩
  | _, _, _, i + 1, v, R, .em x e, h => by
    obtain ⟨h1, L1, Li, L2, h2, h3, h4⟩ := EnvOk.getR (i := i) (v := v) (R := R) e (by simpa using h)
    exact ⟨by simpa using h1, L1, Li, L2, h2, h3, fun I' H' R' Li' ei k q => .em x (h4 I' H' R' Li' ei k q)⟩
  | _, _, _, i + 1, v, R, .dat p e, h => by
    obtain ⟨h1, L1, Li, L2, h2, h3, h4⟩ := EnvOk.getR (i := i) (v := v) (R := R) e (by simpa using h)
    exact ⟨by simpa using h1, L1, Li, L2, h2, h3, fun I' H' R' Li' ei k q => .dat (p.mono ei) (h4 I' H' R' Li' ei k q)⟩
  | _, _, _, i + 1, v, R, .res (L1 := L0) (R := R0) p e, h => by
    obtain ⟨h1, L1, Li, L2, h2, h3, h4⟩ := EnvOk.getR (i := i) (v := v) (R := R) e (by simpa using h)
    refine ⟨by simpa using h1, L0 ++ L1, Li, L2, by rw [h2, List.append_assoc], h3, fun I' H' R' Li' ei k q => ?_⟩
    rw [List.append_assoc]
    exact .res (R0.mono ei (R0.frame (fun a h => k a (List.mem_append_left _ (List.mem_append_left _ h))) p)) (h4 I' H' R' Li' ei (fun a h => k a (by
      rcases List.mem_append.mp h with h | h
      · exact List.mem_append_left _ (List.mem_append_right _ h)
      · exact List.mem_append_right _ h)) q)
/-- a slot is forgotten -/
theorem EnvOk.setE (x : Option V) : ∀ {Γ : List Sl} {σ : Sg} {L : List Addr} (i : Nat), EnvOk K I H Γ σ L → ∃ L', L'.Sublist L ∧ EnvOk K I H (Γ.set i .em) (σ.set i x) L'
  | _, _, _, _, .nil => ⟨[], List.Sublist.refl _, .nil⟩
  | _, _, _, 0, .em _ e => ⟨_, List.Sublist.refl _, .em _ e⟩
  | _, _, _, 0, .dat _ e => ⟨_, List.Sublist.refl _, .em _ e⟩
  | _, _, _, 0, .res (L1 := L1) _ e => ⟨_, List.sublist_append_right _ _, .em _ e⟩
  | _, _, _, i + 1, .em y e => let ⟨L', s, r⟩ := EnvOk.setE x i e; ⟨L', s, .em y r⟩
  | _, _, _, i + 1, .dat p e => let ⟨L', s, r⟩ := EnvOk.setE x i e; ⟨L', s, .dat p r⟩
  | _, _, _, i + 1, .res (L1 := L1) p e => let ⟨L', s, r⟩ := EnvOk.setE x i e; ⟨L1 ++ L', List.Sublist.append_left s _, .res p r⟩
theorem Wd.sublist {Γ' : List Sl} {σ' : Sg} (w : Wd K Γ σ I H L) (s : L'.Sublist L) (e : EnvOk K I H Γ' σ' L') : Wd K Γ' σ' I H L' := ⟨e, w.nd.sublist s, fun a h => w.fr a (s.subset h), w.sub⟩
theorem Step.sublist (s : L'.Sublist L) : Step I H L I H L' := ⟨Ex.refl I, fun _ _ h _ => h, fun a h => .inl (s.subset h), fun _ _ h => .inl h⟩
/-- Γ' tells less than Γ -/
inductive Wk : List Sl → List Sl → Prop
  | nil : Wk [] []
  | keep {x : Sl} {Γ Γ' : List Sl} : Wk Γ Γ' → Wk (x :: Γ) (x :: Γ')
  | drop {x : Sl} {Γ Γ' : List Sl} : Wk Γ Γ' → Wk (x :: Γ) (.em :: Γ')
theorem Wk.refl : ∀ Γ : List Sl, Wk Γ Γ
  | [] => .nil
  | _ :: Γ => .keep (Wk.refl Γ)
end
end FD
namespace FD
open PySem PySem.Spec PyProof.Rows L2
inductive Md where
  | p | e
def Guar : Md → Hp → Hp → List Addr → Hp → Hp → List Addr → Prop
  | .p => fun I H L I' H' L' => New I H I' H' ∧ L' = L
  | .e => Step
theorem Guar.refl {m : Md} {I H : Hp} {L : List Addr} : Guar m I H L I H L := by
  cases m with
  | p => exact ⟨New.refl I H, rfl⟩
  | e => exact Step.refl I H L
theorem Guar.new {m : Md} {I H I' H' : Hp} {L : List Addr} (n : New I H I' H') : Guar m I H L I' H' L := by
  cases m with
  | p => exact ⟨n, rfl⟩
  | e => exact n.step L
theorem Guar.trans {m : Md} {I H I1 H1 I2 H2 : Hp} {L L1 L2 : List Addr} (a : Guar m I H L I1 H1 L1) (b : Guar m I1 H1 L1 I2 H2 L2) : Guar m I H L I2 H2 L2 := by
  cases m with
  | p =>
    obtain ⟨a1, rfl⟩ := a
    obtain ⟨b1, rfl⟩ := b
    exact ⟨a1.trans b1, rfl⟩
  | e => exact Step.trans a b
theorem Guar.step {m : Md} {I H I1 H1 : Hp} {L L1 : List Addr} (a : Guar m I H L I1 H1 L1) : Step I H L I1 H1 L1 := by
  cases m with
  | p =>
    obtain ⟨a1, rfl⟩ := a
    exact a1.step _
  | e => exact a
theorem Guar.i {m : Md} {I H I1 H1 : Hp} {L L1 : List Addr} (a : Guar m I H L I1 H1 L1) : Ex I I1 := a.step.i
def PureR (K : PySem.W.Frag) (I H : Hp) (r : Hp → VK → Prop) (z : D) : Prop := ∀ Q : VK, (∀ v I' H', New I H I' H' → Ex I' H' → Is K I' v z → Q v H') → r H Q
def OpD (K : PySem.W.Frag) (r : R2) (x y z : D) : Prop := ∀ I H v w, Ex I H → Is K I v x → Is K I w y → PureR K I H (r v w) z
def UnD (K : PySem.W.Frag) (r : V → Hp → VK → Prop) (x z : D) : Prop := ∀ I H v, Ex I H → Is K I v x → PureR K I H (r v) z
def CallD (K : PySem.W.Frag) (r : List V → Hp → VK → Prop) (ds : List D) (z : D) : Prop := ∀ I H vs, Ex I H → IsA K I vs ds → PureR K I H (r vs) z
def Ev (K : PySem.W.Frag) (m : Md) (te : TE) (Γ : List Sl) (d : D) (Γ' : List Sl) : Prop :=
  ∀ σ I H L, Wd K Γ σ I H L → ∀ Q : VK, (∀ v I' H' L', Wd K Γ' σ I' H' L' → Guar m I H L I' H' L' → Is K I' v d → Q v H') → te σ H Q
def EvT (K : PySem.W.Frag) (m : Md) (tt : TT) (Γ : List Sl) (b : Bool) (Γ' : List Sl) : Prop :=
  ∀ σ I H L, Wd K Γ σ I H L → ∀ Q : Bool → Hp → Prop, (∀ I' H' L', Wd K Γ' σ I' H' L' → Guar m I H L I' H' L' → Q b H') → tt σ H Q
/-- a new resource -/
def EvR (K : PySem.W.Frag) (te : TE) (Γ : List Sl) (R : Res) (Γ' : List Sl) : Prop :=
  ∀ σ I H L, Wd K Γ σ I H L → ∀ Q : VK, (∀ v I' H' L', Wd K (.res v R :: Γ') (some v :: σ) I' H' L' → Step I H L I' H' L' → Q v H') → te σ H Q
section
variable {K : PySem.W.Frag} {m : Md} {Γ Γ' Γ1 Γ2 Γ3 : List Sl} {ta tb te tx : TE} {t u : TT} {x y z d : D} {r : R2} {a b c : Bool}
theorem Ev.is {d' : D} (h : Ev K m te Γ d Γ') (e : d = d') : Ev K m te Γ d' Γ' := e ▸ h
theorem EvT.is {b' : Bool} (h : EvT K m t Γ b Γ') (e : b = b') : EvT K m t Γ b' Γ' := e ▸ h
theorem alloc {I H : Hp} {p : Addr} {o : HO} (s : Ex I H) (hp : H p = none) : New I H (upd I p o) (upd H p o) ∧ Ex (upd I p o) (upd H p o) :=
  ⟨⟨Ex.new (s.back hp), Ex.new hp, fun a u e => by
    by_cases h : a = p
    · subst h; exact .inr hp
    · rw [upd_ne h] at e; exact .inl e⟩, s.upd2 hp⟩
/-- what is at a resource's slot is data from now on -/
theorem Wd.frz {σ : Sg} {I H : Hp} {L : List Addr} {i : Nat} {v : V} {ds : List D} (w : Wd K Γ σ I H L) (hi : Γ[i]? = some (.res v (Rlst K ds))) :
    ∃ I' L', Wd K (Γ.set i (.dat (.lst ds))) σ I' H L' ∧ Step I H L I' H L' ∧ Is K I' v (.lst ds) := by
  obtain ⟨h1, L1, Li, L2, rfl, ⟨a, xs, rfl, rfl, ha, hxs⟩, hk⟩ := w.env.getR hi
  have Ia : I a = none := w.fr a (by simp)
  have ei : Ex I (upd I a (.lst xs)) := Ex.new Ia
  have w0 : EnvOk K (upd I a (.lst xs)) H Γ σ (L1 ++ ([a] ++ L2)) := w.env.keep ei fun _ _ => rfl
  have hd : Is K (upd I a (.lst xs)) (.ref a) (.lst ds) := .lst (sq_of upd_same) (hxs.mono ei)
  have key : ∀ {Γ : List Sl} {σ : Sg} {L : List Addr} {i : Nat}, EnvOk K (upd I a (.lst xs)) H Γ σ L → L.Nodup → Γ[i]? = some (.res (.ref a) (Rlst K ds)) → ∃ L', L'.Sublist L ∧ a ∉ L' ∧ EnvOk K (upd I a (.lst xs)) H (Γ.set i (.dat (.lst ds))) σ L' := by
    intro Γ σ L i e
    induction e generalizing i with
    | nil => intro _ h; simp at h
    | em x e ih =>
      intro nd h
      cases i with
      | zero => simp at h
      | succ i => obtain ⟨L', s, na, r⟩ := ih nd (by simpa using h); exact ⟨L', s, na, .em x r⟩
    | dat p e ih =>
      intro nd h
      cases i with
      | zero => simp at h
      | succ i => obtain ⟨L', s, na, r⟩ := ih nd (by simpa using h); exact ⟨L', s, na, .dat p r⟩
    | @res Γ σ L1 L2 v R p e ih =>
      intro nd h
      have nd' := List.nodup_append.mp nd
      cases i with
      | zero =>
        simp at h
        obtain ⟨rfl, rfl⟩ := h
        obtain ⟨b, ys, e1, rfl, _, _⟩ := p
        cases e1
        exact ⟨L2, List.sublist_append_right _ _, fun h => nd'.2.2 a (by simp) a h rfl, .dat hd e⟩
      | succ i =>
        have h' : Γ[i]? = some (.res (.ref a) (Rlst K ds)) := by simpa using h
        obtain ⟨L', s, na, r⟩ := ih nd'.2.1 h'
        refine ⟨L1 ++ L', List.Sublist.append_left s _, fun h => ?_, .res p r⟩
        rcases List.mem_append.mp h with h | h
        · obtain ⟨_, M1, Mi, M2, hM, ⟨b, ys, e1, rfl, _, _⟩, _⟩ := e.getR h'
          cases e1
          exact nd'.2.2 a h a (by rw [hM]; simp) rfl
        · exact na h
  obtain ⟨L', s, na, r⟩ := key w0 w.nd hi
  have memL : ∀ b, b ∈ L' → b ∈ L1 ++ ([a] ++ L2) := fun b hb => s.subset hb
  refine ⟨upd I a (.lst xs), L', ⟨r, w.nd.sublist s, fun b hb => ?_, fun b o e => ?_⟩, ⟨ei, fun _ _ h _ => h, fun b hb => .inl (memL b hb), fun b o e => ?_⟩, hd⟩
  · have hne : b ≠ a := fun e => na (e ▸ hb)
    rw [upd_ne hne]
    exact w.fr b (memL b hb)
  · by_cases h : b = a
    · subst h; rw [upd_same] at e; cases e; exact ha
    · rw [upd_ne h] at e; exact w.sub b o e
  · by_cases h : b = a
    · subst h; exact .inr (.inl (by simp))
    · rw [upd_ne h] at e; exact .inl e
theorem EvR.frz {ds : List D} (h : EvR K te Γ (Rlst K ds) Γ') : Ev K .e te Γ (.lst ds) Γ' := fun σ I H L w Q q =>
  h σ I H L w Q fun v I1 H1 L1 w1 g1 => by
    obtain ⟨I2, L2, w2, s2, hv⟩ := w1.frz (i := 0) rfl
    have e2 := w2.env
    cases e2 with
    | dat p e => exact q v I2 H1 L2 ⟨e, w2.nd, w2.fr, w2.sub⟩ (Step.trans g1 s2) hv
/-- a def with data alone as arguments -/
def Con (K : PySem.W.Frag) (sp : Sp) (pre : List Sl) (d : D) (post : List Sl) : Prop := ∀ vs I H L, Wd K pre (vs.map some) I H L → ∀ (Q : VK) (E : XK), (∀ v I' H' L', Wd K post (vs.map some) I' H' L' → Step I H L I' H' L' → Is K I' v d → Q v H') → sp vs H Q E
def ConR (K : PySem.W.Frag) (sp : Sp) (pre : List Sl) (R : Res) (post : List Sl) : Prop := ∀ vs I H L, Wd K pre (vs.map some) I H L → ∀ (Q : VK) (E : XK), (∀ v I' H' L', Wd K (.res v R :: post) (some v :: vs.map some) I' H' L' → Step I H L I' H' L' → Q v H') → sp vs H Q E
theorem Step.toNew {I H I' H' : Hp} {L' : List Addr} (s : Step I H [] I' H' L') : New I H I' H' := ⟨s.i, fun a o h => s.keep a o h (by simp), fun a o h => (s.n a o h).elim .inl fun z => z.elim (fun q => by simp at q) .inr⟩
inductive Out where
  | nx (Γ : List Sl) | lp (Γ : List Sl) | rt (d : D) (Γ : List Sl) | rtR (R : Res) (Γ : List Sl) | bk (Γ : List Sl) | ct (Γ : List Sl)
def Post (K : PySem.W.Frag) (Dn : Ends) (I H : Hp) (L : List Addr) : Out → Prop
  | .nx Γ => ∀ σ' I' H' L', Wd K Γ σ' I' H' L' → Step I H L I' H' L' → Dn.nx σ' H'
  | .lp Γ => ∀ σ' I' H' L', Wd K Γ σ' I' H' L' → Step I H L I' H' L' → Dn.nx σ' H' ∧ Dn.ct σ' H'
  | .bk Γ => ∀ σ' I' H' L', Wd K Γ σ' I' H' L' → Step I H L I' H' L' → Dn.bk σ' H'
  | .ct Γ => ∀ σ' I' H' L', Wd K Γ σ' I' H' L' → Step I H L I' H' L' → Dn.ct σ' H'
  | .rt d Γ => ∀ v σ' I' H' L', Wd K Γ σ' I' H' L' → Step I H L I' H' L' → Is K I' v d → Dn.rt v H'
  | .rtR R Γ => ∀ v σ' I' H' L', Wd K (.res v R :: Γ) (some v :: σ') I' H' L' → Step I H L I' H' L' → Dn.rt v H'
theorem Post.later {Dn : Ends} {I H I1 H1 : Hp} {L L1 : List Addr} (s : Step I H L I1 H1 L1) : ∀ {o : Out}, Post K Dn I H L o → Post K Dn I1 H1 L1 o
  | .nx _, p => fun σ' I' H' L' w g => p σ' I' H' L' w (s.trans g)
  | .lp _, p => fun σ' I' H' L' w g => p σ' I' H' L' w (s.trans g)
  | .bk _, p => fun σ' I' H' L' w g => p σ' I' H' L' w (s.trans g)
  | .ct _, p => fun σ' I' H' L' w g => p σ' I' H' L' w (s.trans g)
  | .rt _ _, p => fun v σ' I' H' L' w g hv => p v σ' I' H' L' w (s.trans g) hv
  | .rtR _ _, p => fun v σ' I' H' L' w g => p v σ' I' H' L' w (s.trans g)
def Run (K : PySem.W.Frag) (ts : TS) (Γ : List Sl) (o : Out) : Prop := ∀ σ I H L, Wd K Γ σ I H L → ∀ Dn : Ends, Post K Dn I H L o → ts Dn σ H
variable {ts tu tw : TS} {o : Out}
theorem Run.is {o' : Out} (h : Run K ts Γ o) (e : o = o') : Run K ts Γ o' := e ▸ h
theorem Run.lp (h : Run K ts Γ (.nx Γ1)) : Run K ts Γ (.lp Γ1) := fun σ I H L w Dn p => h σ I H L w Dn fun σ' I' H' L' w' s => (p σ' I' H' L' w' s).1
/-- a step that changes what is told alone -/
theorem Run.ghost (g : ∀ σ I H L, Wd K Γ σ I H L → ∃ I' L', Wd K Γ1 σ I' H L' ∧ Step I H L I' H L') (h : Run K ts Γ1 o) : Run K ts Γ o := fun σ I H L w Dn p => by
  obtain ⟨I', L', w', s⟩ := g σ I H L w
  exact h σ I' H L' w' Dn (p.later s)
theorem Run.frz {i : Nat} {v : V} {ds : List D} (hi : Γ[i]? = some (.res v (Rlst K ds))) (h : Run K ts (Γ.set i (.dat (.lst ds))) o) : Run K ts Γ o :=
  Run.ghost (fun σ I H L w => let ⟨I', L', w', s, _⟩ := w.frz hi; ⟨I', L', w', s⟩) h
end
end FD
namespace FD
open PySem PySem.Spec PyProof.Rows L2
def Sl.isRes : Sl → Bool
  | .res _ _ => true
  | _ => false
def Sl.isEm : Sl → Bool
  | .em => true
  | _ => false
section
variable {K : PySem.W.Frag} {m : Md} {Γ Γ' Γ1 Γ2 Γ3 : List Sl} {ta tb te tx tl : TE} {t u : TT} {x y z d : D} {r : R2} {a b c : Bool} {I H I' H' : Hp} {L L' : List Addr}
theorem EnvOk.setN {v : V} {d : D} (q : Is K I v d) : ∀ {Γ : List Sl} {σ : Sg} {L : List Addr} (i : Nat), (Γ[i]?.any Sl.isRes) = false → EnvOk K I H Γ σ L → EnvOk K I H (Γ.set i (.dat d)) (σ.set i (some v)) L
  | _, _, _, _, _, .nil => .nil
  | _, _, _, 0, _, .em _ e => .dat q e
  | _, _, _, 0, _, .dat _ e => .dat q e
  | _, _, _, 0, h, .res (L1 := L1) _ e => by simp [Sl.isRes] at h
  | _, _, _, i + 1, h, .em x e => .em x (EnvOk.setN q i (by simpa using h) e)
  | _, _, _, i + 1, h, .dat p e => .dat p (EnvOk.setN q i (by simpa using h) e)
  | _, _, _, i + 1, h, .res (L1 := L1) p e => .res p (EnvOk.setN q i (by simpa using h) e)
/-- the values of forgotten slots do not matter -/
theorem EnvOk.setX (y : Option V) : ∀ {Γ : List Sl} {σ : Sg} {L : List Addr} (i : Nat), (Γ[i]?.all Sl.isEm) = true → EnvOk K I H Γ σ L → EnvOk K I H Γ (σ.set i y) L
  | _, _, _, _, _, .nil => .nil
  | _, _, _, 0, _, .em _ e => .em _ e
  | _, _, _, 0, h, .dat _ e => by simp [Sl.isEm] at h
  | _, _, _, 0, h, .res (L1 := L1) _ e => by simp [Sl.isEm] at h
  | _, _, _, i + 1, h, .em x e => .em x (EnvOk.setX y i (by simpa using h) e)
  | _, _, _, i + 1, h, .dat p e => .dat p (EnvOk.setX y i (by simpa using h) e)
  | _, _, _, i + 1, h, .res (L1 := L1) p e => .res p (EnvOk.setX y i (by simpa using h) e)
theorem EnvOk.wipe {σ : Sg} (h : EnvOk K I H Γ σ L) : ∀ {vs : List Nat}, (∀ k ∈ vs, (Γ[k]?.all Sl.isEm) = true) → EnvOk K I H Γ (wipe σ vs) L
  | [], _ => h
  | v :: vs, q => EnvOk.setX none v (q v (by simp)) (EnvOk.wipe h fun k hk => q k (by simp [hk]))
theorem EnvOk.unset (y : Option V) : ∀ {Γ : List Sl} {σ : Sg} {L : List Addr} (i : Nat), (Γ[i]?.all Sl.isEm) = true → EnvOk K I H Γ (σ.set i y) L → EnvOk K I H Γ σ L
  | _, [], _, _, _, e => by simpa using e
  | _, s :: σ, _, 0, h, e => by
    rw [List.set_cons_zero] at e
    cases e with
    | em _ e => exact .em _ e
    | dat _ e => simp [Sl.isEm] at h
    | res _ e => simp [Sl.isEm] at h
  | _, s :: σ, _, i + 1, h, e => by
    rw [List.set_cons_succ] at e
    cases e with
    | em _ e => exact .em _ (EnvOk.unset y i (by simpa using h) e)
    | dat p e => exact .dat p (EnvOk.unset y i (by simpa using h) e)
    | res p e => exact .res p (EnvOk.unset y i (by simpa using h) e)
theorem EnvOk.unwipe {σ : Sg} : ∀ {vs : List Nat}, (∀ k ∈ vs, (Γ[k]?.all Sl.isEm) = true) → EnvOk K I H Γ (L2.wipe σ vs) L → EnvOk K I H Γ σ L
  | [], _, h => h
  | v :: vs, q, h => EnvOk.unwipe (fun k hk => q k (by simp [hk])) (EnvOk.unset none v (q v (by simp)) h)
theorem set_comm' {α : Type} (l : List α) (i j : Nat) (x : α) : (l.set i x).set j x = (l.set j x).set i x := by
  by_cases h : i = j
  · subst h; rfl
  · exact List.set_comm x x h
theorem wipe_set_self (vs : List Nat) (σ : Sg) (v : Nat) : wipe (σ.set v none) vs = (wipe σ vs).set v none := by
  induction vs generalizing σ with
  | nil => rfl
  | cons w ws ih =>
    show (wipe (σ.set v none) ws).set w none = ((wipe σ ws).set w none).set v none
    rw [ih, set_comm']
theorem wipe_idem (vs : List Nat) (σ : Sg) : wipe (wipe σ vs) vs = wipe σ vs := by
  induction vs generalizing σ with
  | nil => rfl
  | cons v vs ih =>
    show (wipe ((wipe σ vs).set v none) vs).set v none = (wipe σ vs).set v none
    rw [wipe_set_self, ih, List.set_set]
def intsD (lo : Int) (n : Nat) : List D := (List.range n).map fun i => .int (lo + (i : Nat))
def enumD (ds : List D) : List D := ds.zipIdx.map fun p => .tup [.int (p.2 : Nat), p.1]
/-- a text's signs -/
def signs (s : Str) : List D := s.cps.toList.map fun c => .str ⟨#[c]⟩
end
end FD
namespace FD
open PySem PySem.Spec PyProof.Rows L2
mutual
def D.py : D → PyData
  | .non => .none
  | .bl b => .bool b
  | .int i => .int i
  | .str x => .str x
  | .lst ds => .list (D.pyA ds)
  | .tup ds => .tuple (D.pyA ds)
  | .dic _ _ => .none
  | .ins _ _ _ => .none
  | .raw _ => .none
def D.pyA : List D → List PyData
  | [] => []
  | d :: ds => D.py d :: D.pyA ds
end
mutual
/-- data that the library's PyData tells -/
def D.pure : D → Bool
  | .lst ds => D.pureA ds
  | .tup ds => D.pureA ds
  | .dic _ _ => false
  | .ins _ _ _ => false
  | .raw _ => false
  | _ => true
def D.pureA : List D → Bool
  | [] => true
  | d :: ds => D.pure d && D.pureA ds
end
/-- without objects -/
def D.scalar : D → Bool
  | .non => true
  | .bl _ => true
  | .int _ => true
  | .str _ => true
  | .raw _ => true
  | _ => false
section
variable {K : PySem.W.Frag} {I H : Hp}
mutual
theorem Is.dp (e : Ex I H) : ∀ {d : D} {v : V}, D.pure d = true → Is K I v d → Dp K H v d.py
  | .non, _, _, h => by cases h; exact .non
  | .bl _, _, _, h => by cases h; exact .bl _
  | .int _, _, _, h => by cases h; exact .int _
  | .str _, _, _, h => by cases h; exact .str _
  | .lst ds, _, p, h => by
    cases h with
    | lst h1 h2 => exact .lst (e.l h1) (IsA.dp e (by simpa [D.pure] using p) h2)
  | .tup ds, _, p, h => by
    cases h with
    | tup h1 h2 => exact .tup (e.t h1) (IsA.dp e (by simpa [D.pure] using p) h2)
  | .dic _ _, _, p, _ => by simp [D.pure] at p
  | .ins _ _ _, _, p, _ => by simp [D.pure] at p
  | .raw _, _, p, _ => by simp [D.pure] at p
theorem IsA.dp (e : Ex I H) : ∀ {ds : List D} {vs : List V}, D.pureA ds = true → IsA K I vs ds → DpAll K H vs (D.pyA ds)
  | [], _, _, h => by cases h; exact .nil
  | d :: ds, _, p, h => by
    cases h with
    | cons h1 h2 =>
      simp only [D.pureA, Bool.and_eq_true] at p
      exact .cons (Is.dp e p.1 h1) (IsA.dp e p.2 h2)
end
theorem Is.scalar {I' : Hp} {d : D} {v : V} (h : Is K I v d) (s : d.scalar = true) : Is K I' v d := by
  cases d with
  | non => cases h; exact .non
  | bl _ => cases h; exact .bl _
  | int _ => cases h; exact .int _
  | str _ => cases h; exact .str _
  | raw _ => cases h; exact .raw _
  | lst _ => cases s
  | tup _ => cases s
  | dic _ _ => cases s
  | ins _ _ _ => cases s
end
/-- == of data -/
def D.eqv (x y : D) : Bool := PyData.eqv x.py y.py
def D.shaped (x : D) : Bool := D.pure x && SeqAt.shaped x.py
theorem IsA.atI {K : PySem.W.Frag} {I : Hp} {vs : List V} {ds : List D} {i : Int} {d : D} (h : IsA K I vs ds) (e : atI ds i = some d) : ∃ v, L2.atI vs i = some v ∧ Is K I v d := by
  unfold L2.atI at e ⊢
  rw [h.length]
  cases q : ixN ds.length i with
  | none => rw [q] at e; cases e
  | some j => rw [q] at e; exact h.getD e
def cutD (ds : List D) (lo hi : Option Int) : List D := (ds.drop (HT.sIx ds.length 0 lo)).take (HT.sIx ds.length ds.length hi - HT.sIx ds.length 0 lo)
theorem IsA.cut {K : PySem.W.Frag} {I : Hp} {vs : List V} {ds : List D} (h : IsA K I vs ds) (lo hi : Option Int) : IsA K I (cutV vs lo hi) (cutD ds lo hi) := by
  unfold cutV cutD
  rw [h.length]
  exact (h.drop _).take _
section
variable {K : PySem.W.Frag} {m : Md} {Γ Γ' Γ1 Γ2 Γ3 : List Sl} {ta tb te tx tl ti : TE} {t u : TT} {x y z d : D} {r r' : R2} {a b c : Bool} {I H I' H' : Hp} {L L' : List Addr} {i j : Int} {o : Out}
theorem pureR_here {r : Hp → VK → Prop} {v : V} (s : Ex I H) (hv : Is K I v z) (h : ∀ Q : VK, Q v H → r H Q) : PureR K I H r z := fun Q q => h Q (q v I H (New.refl I H) s hv)
theorem opd_or1 (h : OpD K r x y z) : OpD K (fun x y H Q => r x y H Q ∨ r' x y H Q) x y z := fun I H v w s hv hw Q q => .inl (h I H v w s hv hw Q q)
theorem opd_or2 (h : OpD K r' x y z) : OpD K (fun x y H Q => r x y H Q ∨ r' x y H Q) x y z := fun I H v w s hv hw Q q => .inr (h I H v w s hv hw Q q)
theorem opd_Ii {f : Int → Int → Int} : OpD K (rI0 fun i j => .int (f i j)) (.int i) (.int j) (.int (f i j)) := fun I H v w s hv hw => by
  cases hv; cases hw
  exact pureR_here s (.int _) fun Q q => ⟨i, j, rfl, rfl, q⟩
theorem opd_Ib {f : Int → Int → Bool} : OpD K (rI0 fun i j => .bl (f i j)) (.int i) (.int j) (.bl (f i j)) := fun I H v w s hv hw => by
  cases hv; cases hw
  exact pureR_here s (.bl _) fun Q q => ⟨i, j, rfl, rfl, q⟩
theorem opd_IC {C : Int → Int → Prop} {f : Int → Int → Int} (hc : C i j) : OpD K (rI C fun i j => .int (f i j)) (.int i) (.int j) (.int (f i j)) := fun I H v w s hv hw => by
  cases hv; cases hw
  exact pureR_here s (.int _) fun Q q => ⟨i, j, rfl, rfl, hc, q⟩
theorem opd_eqD (hx : x.shaped = true) (hy : y.shaped = true) : OpD K (rEqD K) x y (.bl (D.eqv x y)) := fun I H v w s hv hw => by
  simp only [D.shaped, Bool.and_eq_true] at hx hy
  exact pureR_here s (.bl _) fun Q q => ⟨x.py, y.py, hv.dp s hx.1, hw.dp s hy.1, hx.2, hy.2, q⟩
theorem opd_neD (hx : x.shaped = true) (hy : y.shaped = true) : OpD K (rNeD K) x y (.bl (!D.eqv x y)) := fun I H v w s hv hw => by
  simp only [D.shaped, Bool.and_eq_true] at hx hy
  exact pureR_here s (.bl _) fun Q q => ⟨x.py, y.py, hv.dp s hx.1, hw.dp s hy.1, hx.2, hy.2, q⟩
theorem py_list (ds : List D) : (D.lst ds).py = .list (D.pyA ds) := by simp [D.py]
theorem opd_inD {ds : List D} (hx : x.shaped = true) (hy : (D.lst ds).shaped = true) : OpD K (rInD K) x (.lst ds) (.bl ((D.pyA ds).any fun z => PyData.eqv z x.py)) := fun I H v w s hv hw => by
  simp only [D.shaped, Bool.and_eq_true] at hx hy
  rw [py_list] at hy
  have hd := hw.dp s hy.1
  rw [py_list] at hd
  exact pureR_here s (.bl _) fun Q q => ⟨x.py, D.pyA ds, hv.dp s hx.1, hd, hx.2, hy.2, q⟩
theorem opd_notInD {ds : List D} (hx : x.shaped = true) (hy : (D.lst ds).shaped = true) : OpD K (rNotInD K) x (.lst ds) (.bl (!(D.pyA ds).any fun z => PyData.eqv z x.py)) := fun I H v w s hv hw => by
  simp only [D.shaped, Bool.and_eq_true] at hx hy
  rw [py_list] at hy
  have hd := hw.dp s hy.1
  rw [py_list] at hd
  exact pureR_here s (.bl _) fun Q q => ⟨x.py, D.pyA ds, hv.dp s hx.1, hd, hx.2, hy.2, q⟩
theorem opd_ixS {w : Str} {k : Int} {c : Nat} (hl : w.length ≤ sizeLine) (h : atI w.cps.toList k = some c) : OpD K (rIx K) (.str w) (.int k) (.str ⟨#[c]⟩) := fun I H v u s hv hw => by
  cases hv; cases hw
  exact pureR_here s (.str _) fun Q q => .inr (.inr ⟨w, k, c, rfl, rfl, hl, h, q⟩)
theorem opd_addS {v w : Str} (h : v.length + w.length ≤ sizeLine) : OpD K (fun x y H Q => ∃ i j, x = .str i ∧ y = .str j ∧ i.length + j.length ≤ sizeLine ∧ Q (.str (i ++ j)) H) (.str v) (.str w) (.str (v ++ w)) := fun I H a b s ha hb => by
  cases ha; cases hb
  exact pureR_here s (.str _) fun Q q => ⟨v, w, rfl, rfl, h, q⟩
theorem cd_int {i : Int} : CallD K (fun xs H Q => (∃ i, xs = [.int i] ∧ Q (.int i) H) ∨ ∃ k, xs = [.bl k] ∧ Q (.int (if k then 1 else 0)) H) [.int i] (.int i) := fun I H vs s h => by
  cases h with
  | cons h1 h2 =>
    cases h1; cases h2
    exact pureR_here s (.int i) fun Q q => .inl ⟨i, rfl, q⟩
theorem cd_abs {i : Int} : CallD K (fun xs H Q => ∃ i, xs = [.int i] ∧ Q (.int (if i < 0 then -i else i)) H) [.int i] (.int (if i < 0 then -i else i)) := fun I H vs s h => by
  cases h with
  | cons h1 h2 =>
    cases h1; cases h2
    exact pureR_here s (.int _) fun Q q => ⟨i, rfl, q⟩
theorem cd_lenL {ds : List D} : CallD K (fun xs H Q => ∃ p ys, xs = [.ref p] ∧ (SqL K H p ys ∨ SqT K H p ys) ∧ Q (.int ys.length) H) [.lst ds] (.int (ds.length : Nat)) := fun I H vs s h => by
  cases h with
  | cons h1 h2 =>
    cases h2
    cases h1 with
    | lst q1 q2 => exact pureR_here s (.int _) fun Q q => ⟨_, _, rfl, .inl (s.l q1), by rw [q2.length]; exact q⟩
theorem cd_lenT {ds : List D} : CallD K (fun xs H Q => ∃ p ys, xs = [.ref p] ∧ (SqL K H p ys ∨ SqT K H p ys) ∧ Q (.int ys.length) H) [.tup ds] (.int (ds.length : Nat)) := fun I H vs s h => by
  cases h with
  | cons h1 h2 =>
    cases h2
    cases h1 with
    | tup q1 q2 => exact pureR_here s (.int _) fun Q q => ⟨_, _, rfl, .inr (s.t q1), by rw [q2.length]; exact q⟩
end
end FD
namespace FD
open PySem PySem.Spec PyProof.Rows L2
theorem fd_addL {prog : Program} {w : PySem.World} {A : Around} {E : Value → Shared → Prop} {s : Shared} {l b : Addr} {vs ws : List Value} {Q : Value → Shared → Prop} (hl : s.heap.IsList l vs.toArray) (hb : s.heap.IsList b ws.toArray) (hsz : vs.length + ws.length ≤ sizeLine)
    (h : Q (.ref s.heap.objs.size) { s with heap := s.heap.push { cls := .type "list", data := .seq (vs ++ ws).toArray } }) : wpAny (model prog w) A (binaryOp .Add (.ref l) (.ref b)) Q E s := by
  obtain ⟨⟨cls, dd, data, sl⟩, ho, hc, n, hd⟩ := id hl
  obtain ⟨⟨cls2, dd2, data2, sl2⟩, ho2, hc2, n2, hd2⟩ := id hb
  simp only at hc hd hc2 hd2
  subst hc hd hc2 hd2
  have e : vs.toArray ++ ws.toArray = (vs ++ ws).toArray := by simp
  refine PySem.concat_meets ⟨_, ho, rfl⟩ ⟨_, ho2, rfl⟩ PySem.noFill_list_add PySem.seq_list_add PySem.F.slot_list_add PySem.F.entry_list_add (PySem.F.args_list_add_2 _ _) (PyProof.Rows.list_addW l b vs.toArray ws.toArray n n2 dd dd2 sl sl2 (by simpa using hsz)) ⟨ho, ho2, ?_⟩
  rw [e]
  exact h
section
variable {X : Cx}
/-- list + list, read -/
def rCatL (K : PySem.W.Frag) : R2 := fun x y H Q => ∃ l b xs zs, x = .ref l ∧ y = .ref b ∧ SqL K H l xs ∧ SqL K H b zs ∧ xs.length + zs.length ≤ sizeLine ∧ ∀ p, H p = none → Q (.ref p) (upd H p (.lst (xs ++ zs)))
theorem op_catL : OpR X (binaryOp .Add) (rCatL X.K) := by
  intro pins s σ H x y v u Q I rx ry h
  obtain ⟨l, b, xs, zs, rfl, rfl, hH, hB, hz, q⟩ := h
  cases rx
  cases ry
  obtain ⟨its, r, pl, z⟩ := I.list hH
  obtain ⟨its2, r2, pl2, z2⟩ := I.list hB
  have hl := r.length
  have hl2 := r2.length
  exact fd_addL pl.isList pl2.isList (by omega) ⟨.ref _, _, I.lnew (t' := s.toks) (r.append r2) (by rw [List.length_append]; omega), rfl, q _ I.fresh⟩
def rAddA (K : PySem.W.Frag) : R2 := fun x y H Q => (rI0 (fun i j => .int (i + j)) x y H Q) ∨ (fun x y H Q => (∃ i j, x = .str i ∧ y = .str j ∧ i.length + j.length ≤ sizeLine ∧ Q (.str (i ++ j)) H) ∨ (fun x y H Q => rCatL K x y H Q ∨ rCatA K x y H Q) x y H Q) x y H Q
theorem op_addA : OpR X (binaryOp .Add) (rAddA X.K) := OpR.or op_add (OpR.or op_add_str (OpR.or op_catL op_catA))
/-- <, <=, >, >= of ints and of texts -/
def rLtA : R2 := fun x y H Q => (rI0 (fun i j => .bl (decide (i < j))) x y H Q) ∨ (∃ i j, x = .str i ∧ y = .str j ∧ Q (.bl (decide (i.cps.toList < j.cps.toList))) H)
def rLeA : R2 := fun x y H Q => (rI0 (fun i j => .bl (decide (i ≤ j))) x y H Q) ∨ (∃ i j, x = .str i ∧ y = .str j ∧ Q (.bl (!decide (j.cps.toList < i.cps.toList))) H)
def rGtA : R2 := fun x y H Q => (rI0 (fun i j => .bl (decide (j < i))) x y H Q) ∨ (∃ i j, x = .str i ∧ y = .str j ∧ Q (.bl (decide (j.cps.toList < i.cps.toList))) H)
def rGeA : R2 := fun x y H Q => (rI0 (fun i j => .bl (decide (j ≤ i))) x y H Q) ∨ (∃ i j, x = .str i ∧ y = .str j ∧ Q (.bl (!decide (i.cps.toList < j.cps.toList))) H)
theorem op_ltA : OpR X (compareOp .Lt) rLtA := OpR.or op_lt op_lt_str
theorem op_leA : OpR X (compareOp .LtE) rLeA := OpR.or op_le op_le_str
theorem op_gtA : OpR X (compareOp .Gt) rGtA := OpR.or op_gt op_gt_str
theorem op_geA : OpR X (compareOp .GtE) rGeA := OpR.or op_ge op_ge_str
/-- slices of lists, tuples, texts -/
def rSlAny (K : PySem.W.Frag) : V → Option Int → Option Int → Hp → VK → Prop := fun x lo hi H Q => rSlL K x lo hi H Q ∨ (fun x lo hi H Q => rSlA K x lo hi H Q ∨ rSlS x lo hi H Q) x lo hi H Q
theorem sl_any : SlR X (rSlAny X.K) := SlR.or sl_list (SlR.or sl_tupA sl_str)
/-- len of lists, tuples, texts -/
def rLenA (K : PySem.W.Frag) : List V → Hp → VK → Prop := fun xs H Q => (∃ p ys, xs = [.ref p] ∧ (SqL K H p ys ∨ SqT K H p ys) ∧ Q (.int ys.length) H) ∨ (∃ z, xs = [.str z] ∧ z.length ≤ sizeLine ∧ Q (.int z.length) H)
theorem call_lenA : CallR X (.builtin "len") (rLenA X.K) := CallR.or call_len_seq call_len_str
end
section
variable {K : PySem.W.Frag} {m : Md} {Γ Γ' Γ1 Γ2 Γ3 : List Sl} {ta tb te tx tl ti : TE} {t u : TT} {x y z d : D} {r r' : R2} {a b c : Bool} {I H I' H' : Hp} {L L' : List Addr} {i j : Int} {o : Out}
theorem opd_add : OpD K (rAddA K) (.int i) (.int j) (.int (i + j)) := opd_or1 opd_Ii
theorem opd_addStr {v w : Str} (h : v.length + w.length ≤ sizeLine) : OpD K (rAddA K) (.str v) (.str w) (.str (v ++ w)) := opd_or2 (opd_or1 (opd_addS h))
theorem opd_addT {ds es : List D} (h : ds.length + es.length ≤ sizeLine) : OpD K (rAddA K) (.tup ds) (.tup es) (.tup (ds ++ es)) := fun I H v w s hv hw Q q => by
  cases hv with
  | @tup a1 xs _ h1 h2 =>
    cases hw with
    | @tup a2 zs _ h3 h4 =>
      refine .inr (.inr (.inr ⟨_, _, _, _, rfl, rfl, s.t h1, s.t h3, by rw [h2.length, h4.length]; exact h, fun e => ?_, fun ne e => ?_, fun n1 n2 p hp => ?_⟩))
      · subst e
        cases h2
        exact q _ I H (New.refl I H) s (.tup h3 h4)
      · subst e
        cases h4
        exact q _ I H (New.refl I H) s (by rw [List.append_nil]; exact .tup h1 h2)
      · obtain ⟨n, e⟩ := alloc (o := .tup (xs ++ zs)) s hp
        exact q _ _ _ n e (.tup (st_of upd_same) ((h2.append h4).mono n.i))
theorem opd_mul (h : i.natAbs.log2 + j.natAbs.log2 < 1000000) : OpD K (rI CMulW fun i j => .int (i * j)) (.int i) (.int j) (.int (i * j)) := opd_IC h
theorem opd_fdiv (h : 0 < j ∧ j.natAbs.log2 < 9000) : OpD K (rI CDivW fun i j => .int (i / j)) (.int i) (.int j) (.int (i / j)) := opd_IC h
theorem opd_mod (h : 0 < j) : OpD K (rI (fun _ j => 0 < j) fun i j => .int (i % j)) (.int i) (.int j) (.int (i % j)) := opd_IC h
theorem opd_pow (h : 0 ≤ j ∧ j ≤ 1000000 ∧ i.natAbs < 2 ^ 64) : OpD K (rI CPow fun i j => .int (i ^ j.toNat)) (.int i) (.int j) (.int (i ^ j.toNat)) := opd_IC h
theorem cd_lenList {ds : List D} : CallD K (rLenA K) [.lst ds] (.int (ds.length : Nat)) := fun I H vs s h Q q => .inl (cd_lenL I H vs s h Q q)
theorem cd_lenTup {ds : List D} : CallD K (rLenA K) [.tup ds] (.int (ds.length : Nat)) := fun I H vs s h Q q => .inl (cd_lenT I H vs s h Q q)
theorem cd_lenStr {w : Str} (hw : w.length ≤ sizeLine) : CallD K (rLenA K) [.str w] (.int (w.length : Nat)) := fun I H vs s h Q q => by
  cases h with
  | cons h1 h2 =>
    cases h1; cases h2
    exact .inr ⟨w, rfl, hw, q _ I H (New.refl I H) s (.int _)⟩
end
end FD
namespace FD
open PySem PySem.Spec PyProof.Rows L2
section
variable {X : Cx}
theorem pi_or {tg it : Expr} {w1 w2 : TI} (h1 : PI X tg it w1) (h2 : PI X tg it w2) : PI X tg it (fun σ H R => w1 σ H R ∨ w2 σ H R) :=
  ⟨fun pins s σ H R I h => h.elim (h1.run pins s σ H R I) (h2.run pins s σ H R I)⟩
/-- a list, a tuple or a text -/
def iAny (K : PySem.W.Frag) (te : TE) : TI := fun σ H R => iList K te σ H R ∨ (fun σ H R => iTup K te σ H R ∨ iStr te σ H R) σ H R
theorem pi_any {tg e : Expr} {te : TE} (h : PE X e te) : PI X tg e (iAny X.K te) := pi_or (pi_list h) (pi_or (pi_tup h) (pi_str h))
end
end FD
namespace FD
open PySem PySem.Spec PyProof.Rows L2
theorem hu64 {A : Around} {k : Nat} (hr : Room k A) : A.units + 64 < cLine := hr.units
end FD
namespace FD
open PySem PySem.Spec PyProof.Rows L2
end FD
namespace FD
theorem lg1 {x : Int} (h : -18446744073709551616 ≤ x ∧ x ≤ 18446744073709551616) : x.natAbs.log2 ≤ 64 := by
  by_cases h0 : x.natAbs = 0
  · rw [h0]; decide
  · have h1 : x.natAbs < 2 ^ 65 := by omega
    exact Nat.le_of_lt_succ ((Nat.log2_lt h0).mpr h1)
theorem lgMul {x y : Int} (h : -18446744073709551616 ≤ x ∧ x ≤ 18446744073709551616) (h' : -18446744073709551616 ≤ y ∧ y ≤ 18446744073709551616) : x.natAbs.log2 + y.natAbs.log2 < 1000000 := by
  have := lg1 h
  have := lg1 h'
  omega
theorem lgDiv {x : Int} (h : 0 < x ∧ x ≤ 18446744073709551616) : 0 < x ∧ x.natAbs.log2 < 9000 := by
  have := lg1 (x := x) ⟨by omega, h.2⟩
  exact ⟨h.1, by omega⟩
end FD
namespace FD
open PySem PySem.Spec PyProof.Rows L2
section
variable {K : PySem.W.Frag} {m : Md} {Γ Γ' Γ1 Γ2 Γ3 : List Sl} {ta tb te tx tl ti : TE} {t u : TT} {x y z d : D} {r r' : R2} {a b c : Bool} {I H I' H' : Hp} {L L' : List Addr} {i j : Int} {o : Out}
/-- beside a list that is being made -/
theorem Wd.side {σ : Sg} {p : Addr} {xs : List V} (w : Wd K Γ σ I H L) (hp : H p = some (.lst xs)) (hI : I p = none) (hL : p ∉ L) {I' H' : Hp} {L' : List Addr} (s : Step I H L I' H' L') : H' p = some (.lst xs) ∧ I' p = none ∧ p ∉ L' := by
  refine ⟨s.keep p _ hp hL, ?_, fun h => ?_⟩
  · cases e : I' p with
    | none => rfl
    | some o =>
      rcases s.n p o e with q | q | q
      · rw [hI] at q; cases q
      · exact absurd q hL
      · rw [hp] at q; cases q
  · rcases s.l p h with q | q
    · exact hL q
    · rw [hp] at q; cases q
end
end FD
namespace FD
open PySem PySem.Spec PyProof.Rows L2
theorem Step.frame {I H I' H' : Hp} {L L' : List Addr} (s : Step I H L I' H' L') (M : List Addr) : Step I H (M ++ L) I' H' (M ++ L') where
  i := s.i
  keep a o h hl := s.keep a o h fun z => hl (by simp [z])
  l a h := by
    rcases List.mem_append.mp h with h | h
    · exact .inl (by simp [h])
    · exact (s.l a h).elim (fun z => .inl (by simp [z])) .inr
  n a o h := (s.n a o h).elim .inl fun z => .inr (z.elim (fun q => .inl (by simp [q])) .inr)
/-- a dict's pairs -/
inductive IsK (K : PySem.W.Frag) (I : Hp) : List (Key × V) → List (Key × D) → Prop
  | nil : IsK K I [] []
  | cons {k : Key} {v : V} {d : D} {kvs : List (Key × V)} {es : List (Key × D)} : Is K I v d → IsK K I kvs es → IsK K I ((k, v) :: kvs) ((k, d) :: es)
def look (es : List (Key × D)) (k : Key) : Option D := (es.find? fun e => decide (e.1 = k)).map (·.2)
def putD (es : List (Key × D)) (k : Key) (d : D) : List (Key × D) :=
  if (es.any fun e => decide (e.1 = k)) = true then es.map (fun e => if e.1 = k then (e.1, d) else e) else es ++ [(k, d)]
def D.dict (es : List (Key × D)) : D := .dic (es.map (·.1)) (es.map (·.2))
section
variable {K : PySem.W.Frag} {I I' : Hp}
theorem IsK.mono (e : Ex I I') : ∀ {kvs : List (Key × V)} {es : List (Key × D)}, IsK K I kvs es → IsK K I' kvs es
  | _, _, .nil => .nil
  | _, _, .cons h t => .cons (h.mono e) (t.mono e)
theorem IsK.len : ∀ {kvs : List (Key × V)} {es : List (Key × D)}, IsK K I kvs es → kvs.length = es.length
  | _, _, .nil => rfl
  | _, _, .cons _ t => by simp [t.len]
theorem IsK.of : ∀ {kvs : List (Key × V)} {es : List (Key × D)}, kvs.map (·.1) = es.map (·.1) → IsA K I (kvs.map (·.2)) (es.map (·.2)) → IsK K I kvs es
  | [], [], _, _ => .nil
  | [], _ :: _, h, _ => by simp at h
  | _ :: _, [], h, _ => by simp at h
  | (k, v) :: kvs, (k', d) :: es, h, g => by
    simp at h
    obtain ⟨rfl, h⟩ := h
    cases g with
    | cons g1 g2 => exact .cons g1 (IsK.of h g2)
theorem IsK.any (k : Key) : ∀ {kvs : List (Key × V)} {es : List (Key × D)}, IsK K I kvs es → (kvs.any fun e => decide (e.1 = k)) = (es.any fun e => decide (e.1 = k))
  | _, _, .nil => rfl
  | _, _, .cons _ t => by simp [t.any k]
theorem IsK.look (k : Key) : ∀ {kvs : List (Key × V)} {es : List (Key × D)}, IsK K I kvs es → (valV kvs k = none ∧ look es k = none) ∨ ∃ v d, valV kvs k = some v ∧ look es k = some d ∧ Is K I v d
  | _, _, .nil => .inl ⟨rfl, rfl⟩
  | _, _, .cons (k := k') (v := v) (d := d) h t => by
    by_cases e : k' = k
    · subst e
      exact .inr ⟨v, d, valV_pos rfl, by simp [FD.look], h⟩
    · rw [valV_neg e]
      have : ∀ es : List (Key × D), FD.look ((k', d) :: es) k = FD.look es k := fun es => by simp [FD.look, e]
      rw [this]
      exact t.look k
theorem IsK.putIn {k : Key} {v : V} {d : D} (h : Is K I v d) : ∀ {kvs : List (Key × V)} {es : List (Key × D)}, IsK K I kvs es → IsK K I (kvs.map fun kv => if kv.1 = k then (kv.1, v) else kv) (es.map fun e => if e.1 = k then (e.1, d) else e)
  | _, _, .nil => .nil
  | _, _, .cons (k := k') h' t => by
    simp only [List.map_cons]
    by_cases e : k' = k
    · rw [if_pos e, if_pos e]; exact .cons h (IsK.putIn h t)
    · rw [if_neg e, if_neg e]; exact .cons h' (IsK.putIn h t)
theorem IsK.putEnd {k : Key} {v : V} {d : D} (h : Is K I v d) : ∀ {kvs : List (Key × V)} {es : List (Key × D)}, IsK K I kvs es → IsK K I (kvs ++ [(k, v)]) (es ++ [(k, d)])
  | _, _, .nil => .cons h .nil
  | _, _, .cons h' t => .cons h' (IsK.putEnd h t)
theorem IsK.put {k : Key} {v : V} {d : D} (h : Is K I v d) {kvs : List (Key × V)} {es : List (Key × D)} (t : IsK K I kvs es) : IsK K I (putK kvs k v) (putD es k d) := by
  unfold putK putD
  rw [t.any k]
  split
  · exact IsK.putIn h t
  · exact IsK.putEnd h t
end
end FD
namespace FD
open PySem PySem.Spec PyProof.Rows L2
section
variable {K : PySem.W.Frag} {m : Md} {Γ Γ' Γ1 Γ2 Γ3 : List Sl} {ta tb te tx tl ti td ty to : TE} {t u : TT} {x y z d : D} {r r' : R2} {a b c : Bool} {I H I' H' : Hp} {L L' : List Addr} {i j k : Nat} {o : Out} {v w : V} {R R' : Res} {C : Addr} {ns : List Str} {fs : List Sl} {f mm : Str} {up up0 : Res → List Sl}
/-- with keywords behind, in the parameters' order -/
def tMethN (C : Addr) (mm : Str) (n l : Nat) (sp : Sp) (gV : List V → List V → List V) (E : XK) (to : TE) (t tk : TA) : TE := fun σ H Q => to σ H fun x H1 => ∃ a dx fs, x = .ref a ∧ H1 a = some (.ins C dx fs) ∧ fs.lookup mm = none ∧
  t σ H1 fun vs H2 => tk σ H2 fun zs H3 => (x :: vs).length = n ∧ zs.length = l ∧ sp (gV (x :: vs) zs) H3 Q E
end
end FD
namespace FD
open PySem PySem.Spec PyProof.Rows L2
section
variable {X : Cx} {CX : CXT} {k n : Nat} {C f : Addr} {fd : FuncData} {ps ks : List Str} {sp : Sp} {E : XK} {m : Str} {apos pos : Pos} {e o : Expr} {es : List Expr} {kws : List Keyword} {ta : TE} {t tk : TA} {g : List Value → List Value → List Value} {gV : List V → List V → List V}
/-- o.m(e, .., k = v, ..) -/
theorem pe_methN {pl : Sem Bool} (he : PE X o ta) (c : Cls X.K C) (hm : Meth X.K C m f) (F : FnOk X.prog X.w X.K X.mg X.base CX k f fd ps sp) (hr : Room k X.A) (hb : KBn X.K fd ps n ks g gV) (hx : Passes CX X E)
    (ha : PA X (e :: es) t) (hkw : PK X kws tk) (hall : (backToKw pos (keywordEach kws X.env)).all (·.1.isSome) = true := by rfl) (hks : (backToKw pos (keywordEach kws X.env)).filterMap (·.1) = ks := by rfl)
    (hst : starEach (e :: es) X.env = (false, eval e X.env) :: starEach es X.env := by rfl)
    (hpl : ((backTo pos (starEach (e :: es) X.env)).any (·.1) || (backToKw pos (keywordEach kws X.env)).any (·.1.isNone)) = false := by rfl)
    (ht : eval (.Call (.Attribute o m apos) (e :: es) kws pos) X.env = (do
      let ov ← eval o X.env
      standAt apos.atName
      let (f, first) ← holding [ov] (getMethod ov m pl)
      callWith pos f first (backTo pos (starEach (e :: es) X.env)) (backToKw pos (keywordEach kws X.env))) := by rfl) :
    PE X (.Call (.Attribute o m apos) (e :: es) kws pos) (tMethN C m n ks.length sp gV E ta t tk) := by
  refine ⟨fun pins s σ H Q I h => ?_⟩
  refine PySem.W.methodCall_KW (pl := pl) (thn (he.run pins s σ H _ I h) fun u s1 ⟨x, H1, I1, rx, a, dx, fs, ex, ea, l, q⟩ => ?_) ht
  subst ex
  obtain rfl : u = Value.ref a := rx
  refine getmeth_ok I1 ea c hm l ?_
  refine PySem.W.callWith_KW (first := [.ref a]) (h₀ := X.base) I.ok.mod.kin hm.kp hall (thn (ha.run pos pins s1 σ H1 _ I1 q) fun us s2 ⟨vs, H2, I2, r, q2⟩ => ?_) hpl hst
  refine thn (hkw.run pos pins s2 σ H2 _ I2 q2) fun ws s3 ⟨zs, H3, I3, rz, l1, l2, q3⟩ => ⟨I3.kIn, ?_⟩
  rw [hks]
  exact run_fnN (us := .ref a :: us) (vs := .ref a :: vs) F hr hb hx I3 (.cons rfl r) rz l1 l2 q3
end
end FD
namespace FD
open PySem PySem.Spec PyProof.Rows L2
end FD
namespace FD
open PySem PySem.Spec PyProof.Rows L2
def D.tyN : D → String
  | .non => "NoneType" | .bl _ => "bool" | .int _ => "int" | .str _ => "str" | .lst _ => "list" | .tup _ => "tuple" | .dic _ _ => "dict" | .ins _ _ _ => "" | .raw _ => ""
def D.typed : D → Bool
  | .ins _ _ _ => false | .raw _ => false | _ => true
section
variable {K : PySem.W.Frag} {x : D} {I H : Hp} {v : V}
theorem tyx_rdL {a : Addr} {xs : List V} (h : Rd H a (.lst xs)) : TyX K H (.ref a) (.type "list") := by
  rcases h with h | ⟨o, h⟩
  · exact .base (.lst h)
  · exact .base (.frz h)
theorem tyx_rdD {a : Addr} {xs : List (Key × V)} (h : Rd H a (.dK xs)) : TyX K H (.ref a) (.type "dict") := by
  rcases h with h | ⟨o, h⟩
  · exact .base (.dK h)
  · exact .fDict h
theorem tyx_sqL {a : Addr} {xs : List V} (h : SqL K H a xs) : TyX K H (.ref a) (.type "list") := by
  rcases h with h | ⟨o, its, n, h1, h2, h3, _⟩
  · exact tyx_rdL h
  · exact .kList h1 h2
theorem tyx_sqT {a : Addr} {xs : List V} (h : SqT K H a xs) : TyX K H (.ref a) (.type "tuple") := by
  rcases h with h | ⟨o, its, n, h1, h2, h3, _⟩
  · rcases h with h | ⟨o, h⟩
    · exact .base (.tup h)
    · exact .fTuple h
  · exact .kTuple h1 h2
theorem Is.tyx (e : Ex I H) (h : Is K I v x) (t : x.typed = true) : TyX K H v (.type x.tyN) := by
  cases h with
  | non => exact .base .non
  | bl b => exact .base (.bl b)
  | int i => exact .base (.int i)
  | str s => exact .base (.str s)
  | lst h1 h2 => exact tyx_sqL (e.l h1)
  | tup h1 h2 => exact tyx_sqT (e.t h1)
  | dic h1 h2 h3 => exact tyx_rdD (e.rd h1)
  | ins _ _ _ => cases t
  | raw v => cases t
theorem opd_isnotBl {a b : Bool} : OpD K (fun x y H Q => ∃ a b, x = .bl a ∧ y = .bl b ∧ Q (.bl (!decide (a = b))) H) (.bl a) (.bl b) (.bl (!decide (a = b))) := fun I H v w s hv hw => by
  cases hv; cases hw
  exact pureR_here s (.bl _) fun Q q => ⟨a, b, rfl, rfl, q⟩
end
end FD
namespace PySem.W
open PySem PySem.Spec PyProof.Rows
end PySem.W
namespace FD
open PySem PySem.Spec PyProof.Rows L2
section
variable {K : PySem.W.Frag} {m : Md} {Γ Γ' Γ1 Γ2 pre post : List Sl} {te ta : TE} {z : D} {I H I' H' : Hp} {L L' : List Addr} {i j : Nat} {v u : V} {R R' S S' Rn : Res} {C : Addr} {sp : Sp} {E : XK}
theorem EnvOk.split {Γ : List Sl} {σ : Sg} : ∀ {pre : List Sl} {vs : Sg} {L : List Addr}, pre.length = vs.length → EnvOk K I H (pre ++ Γ) (vs ++ σ) L → ∃ L1 L2, L = L1 ++ L2 ∧ EnvOk K I H pre vs L1 ∧ EnvOk K I H Γ σ L2 := by
  intro pre
  induction pre with
  | nil =>
    intro vs L h e
    cases vs with
    | nil => exact ⟨[], L, rfl, .nil, e⟩
    | cons _ _ => simp at h
  | cons p pre ih =>
    intro vs L h e
    cases vs with
    | nil => simp at h
    | cons x vs =>
      have hl : pre.length = vs.length := by simpa using h
      have e' : EnvOk K I H (p :: (pre ++ Γ)) (x :: (vs ++ σ)) L := e
      cases e' with
      | em x e => obtain ⟨L1, L2, e1, e2, e3⟩ := ih hl e; exact ⟨L1, L2, e1, .em x e2, e3⟩
      | dat q e => obtain ⟨L1, L2, e1, e2, e3⟩ := ih hl e; exact ⟨L1, L2, e1, .dat q e2, e3⟩
      | res q g => obtain ⟨L1, L2, e1, e2, e3⟩ := ih hl g; exact ⟨_ ++ L1, L2, by rw [e1, List.append_assoc], .res q e2, e3⟩
theorem EnvOk.join : ∀ {pre Γ : List Sl} {vs σ : Sg} {L1 L2 : List Addr}, EnvOk K I H pre vs L1 → EnvOk K I H Γ σ L2 → EnvOk K I H (pre ++ Γ) (vs ++ σ) (L1 ++ L2)
  | _, _, _, _, _, _, .nil, g => g
  | _, _, _, _, _, _, .em x e, g => .em x (e.join g)
  | _, _, _, _, _, _, .dat p e, g => .dat p (e.join g)
  | _, _, _, _, _, _, .res p e, g => by rw [List.append_assoc]; exact .res p (e.join g)
/-- what stands beside a part that steps -/
theorem Wd.beside {vs vs' σ : Sg} {pre' : List Sl} {L1 L2 L1' : List Addr} (w : Wd K (pre ++ Γ) (vs ++ σ) I H (L1 ++ L2)) (e1 : EnvOk K I H pre vs L1) (e2 : EnvOk K I H Γ σ L2) (w' : Wd K pre' vs' I' H' L1') (s : Step I H L1 I' H' L1') :
    Wd K (pre' ++ Γ) (vs' ++ σ) I' H' (L1' ++ L2) ∧ Step I H (L1 ++ L2) I' H' (L1' ++ L2) := by
  have nd := List.nodup_append.mp w.nd
  have lv : ∀ a ∈ L2, H a ≠ none := e2.live
  have out : ∀ a ∈ L2, a ∉ L1 := fun a h q => nd.2.2 a q a h rfl
  have kp : ∀ a ∈ L2, H' a = H a := fun a h => by
    cases e : H a with
    | none => exact absurd e (lv a h)
    | some o => exact s.keep a o e (out a h)
  have ap : ∀ a ∈ L1', a ∉ L2 := fun a h q => (s.l a h).elim (out a q) (lv a q)
  refine ⟨⟨w'.env.join (e2.keep s.i kp), List.nodup_append.mpr ⟨w'.nd, nd.2.1, fun a h b hb e => ap a h (e ▸ hb)⟩, fun a h => ?_, w'.sub⟩, ⟨s.i, fun a o e h => s.keep a o e fun q => h (by simp [q]), fun a h => ?_, fun a o e => ?_⟩⟩
  · rcases List.mem_append.mp h with h | h
    · exact w'.fr a h
    · cases e : I' a with
      | none => rfl
      | some o =>
        rcases s.n a o e with q | q | q
        · rw [w.fr a (by simp [h])] at q; cases q
        · exact absurd q (out a h)
        · exact absurd q (lv a h)
  · rcases List.mem_append.mp h with h | h
    · rcases s.l a h with q | q
      · exact .inl (by simp [q])
      · exact .inr q
    · exact .inl (by simp [h])
  · rcases s.n a o e with q | q | q
    · exact .inl q
    · exact .inr (.inl (by simp [q]))
    · exact .inr (.inr q)
theorem Con.frame {vs : List V} {σ : Sg} (hs : Con K sp pre z post) (hl : pre.length = vs.length) (w : Wd K (pre ++ Γ) (vs.map some ++ σ) I H L) (Q : VK) (q : ∀ u I2 H2 L2, Wd K (post ++ Γ) (vs.map some ++ σ) I2 H2 L2 → Step I H L I2 H2 L2 → Is K I2 u z → Q u H2) : sp vs H Q E := by
  obtain ⟨L1, L2, rfl, e1, e2⟩ := EnvOk.split (by simpa using hl) w.env
  have nd := List.nodup_append.mp w.nd
  refine hs vs I H L1 ⟨e1, nd.1, fun a h => w.fr a (by simp [h]), w.sub⟩ Q E fun x I2 H2 L3 w2 s2 hx => ?_
  obtain ⟨w3, s3⟩ := w.beside e1 e2 w2 s2
  exact q x I2 H2 _ w3 s3 hx
theorem ConR.frame {vs : List V} {σ : Sg} (hs : ConR K sp pre Rn post) (hl : pre.length = vs.length) (w : Wd K (pre ++ Γ) (vs.map some ++ σ) I H L) (Q : VK) (q : ∀ u I2 H2 L2, Wd K (.res u Rn :: post ++ Γ) (some u :: vs.map some ++ σ) I2 H2 L2 → Step I H L I2 H2 L2 → Q u H2) : sp vs H Q E := by
  obtain ⟨L1, L2, rfl, e1, e2⟩ := EnvOk.split (by simpa using hl) w.env
  have nd := List.nodup_append.mp w.nd
  refine hs vs I H L1 ⟨e1, nd.1, fun a h => w.fr a (by simp [h]), w.sub⟩ Q E fun x I2 H2 L3 w2 s2 => ?_
  obtain ⟨w3, s3⟩ := w.beside e1 e2 w2 s2
  exact q x I2 H2 _ w3 s3
theorem set_self {α : Type} : ∀ {l : List α} {i : Nat} {x : α}, l[i]? = some x → l.set i x = l
  | [], _, _, h => by simp at h
  | _ :: _, 0, _, h => by simp at h; simp [h]
  | _ :: _, i + 1, _, h => by simp at h; simp [set_self h]
end
end FD
namespace FD
open PySem PySem.Spec PyProof.Rows L2
section
variable {P : Program} {w : PySem.World} {K : PySem.W.Frag} {mg : Str → Option Value} {base : Heap} {CX : CXT} {k : Nat} {f : Addr} {fd : FuncData} {ps : List Str} {sp : Sp}
theorem FnOk.raw0 (F : FnOk P w K mg base CX k f fd ps sp) (hb : Binds K fd ps []) : FnR P w K mg base CX k f sp := (L2.FnOk.raw F hb .nil).imp fun vs H Q E h => by
  rw [List.append_nil]
  exact h
end
end FD
namespace FD
open PySem PySem.Spec PyProof.Rows L2
section
variable {K : PySem.W.Frag} {m : Md} {Γ Γ' Γ1 Γ2 : List Sl} {te ta tb : TE} {x y z d : D} {I H I' H' : Hp} {L L' : List Addr} {i j : Nat} {v u : V} {es fs : List (Key × D)} {up up' : Res → List Sl} {ng : Bool}
theorem isA_ints {vs : List V} {ns : List Int} : IsA K I vs (ns.map .int) ↔ vs = ns.map V.int := by
  induction ns generalizing vs with
  | nil =>
    constructor
    · intro h; cases h; rfl
    · rintro rfl; exact .nil
  | cons n ns ih =>
    constructor
    · intro h
      cases h with
      | cons h1 h2 => cases h1; rw [ih.mp h2]; rfl
    · rintro rfl
      exact .cons (.int n) (ih.mpr rfl)
structure IsiO (K : PySem.W.Frag) (C : Addr) : Prop where
  cl : Cls K C
  ca : PySem.W.findIn K (.ref C) "__class__" = some (some (.builtin "object.__class__"))
  cn : PySem.W.specialIn K (.builtin "object.__class__") "__get__" = some (some (.builtin "getset_descriptor.__get__"))
  ct : PySem.W.takesIn K (.builtin "object.__class__") = some true
  cm : PySem.W.mroIn K C (.type "object") = some true
  cb : ∀ T ∈ ["NoneType", "bool", "int", "str", "list", "tuple", "dict"], PySem.W.kitOne K (.type T) (.ref C) = some false
end
end FD
namespace FD
open PySem PySem.Spec PyProof.Rows L2
end FD
namespace FD
open PySem PySem.Spec PyProof.Rows L2
section
variable {K : PySem.W.Frag} {m : Md} {Γ Γ' Γ1 Γ2 pre post : List Sl} {te tb te1 te2 : TE} {ta : TA} {tu : TS} {z d d1 d2 : D} {I H I' H' : Hp} {L L' : List Addr} {i j : Nat} {v u : V} {R R' S S' Rn R1 R2 : Res} {C : Addr} {sp : Sp} {E : XK} {mm mm' : Str} {o : Out} {ds : List D}
theorem Wd.hold {σ : Sg} (w : Wd K (.res v R :: Γ1) (some v :: σ) I H L) : ∃ L1 L2, L = L1 ++ L2 ∧ Wd K Γ1 σ I H L2 ∧ ∀ {Γ2 : List Sl} {σ2 : Sg} {I' H' : Hp} {L2' : List Addr}, Wd K Γ2 σ2 I' H' L2' → Step I H L2 I' H' L2' →
    Wd K (.res v R :: Γ2) (some v :: σ2) I' H' (L1 ++ L2') ∧ Step I H (L1 ++ L2) I' H' (L1 ++ L2') := by
  have e := w.env
  cases e with
  | @res _ _ L1 L2 _ _ p e =>
    have nd := List.nodup_append.mp w.nd
    refine ⟨L1, L2, rfl, ⟨e, nd.2.1, fun a h => w.fr a (by simp [h]), w.sub⟩, fun {Γ2 σ2 I' H' L2'} w' s => ?_⟩
    have lv : ∀ a ∈ L1, H a ≠ none := fun a h => R.live p a h
    have out : ∀ a ∈ L1, a ∉ L2 := fun a h q => nd.2.2 a h a q rfl
    have kp : ∀ a ∈ L1, H' a = H a := fun a h => by
      cases e : H a with
      | none => exact absurd e (lv a h)
      | some o => exact s.keep a o e (out a h)
    have ap : ∀ a ∈ L1, a ∉ L2' := fun a h q => (s.l a q).elim (out a h) (lv a h)
    refine ⟨⟨.res (R.mono s.i (R.frame kp p)) w'.env, List.nodup_append.mpr ⟨nd.1, w'.nd, fun a h b hb e => ap a h (e ▸ hb)⟩, fun a h => ?_, w'.sub⟩, s.frame L1⟩
    rcases List.mem_append.mp h with h | h
    · cases e : I' a with
      | none => rfl
      | some o =>
        rcases s.n a o e with q | q | q
        · rw [w.fr a (by simp [h])] at q; cases q
        · exact absurd q (out a h)
        · exact absurd q (lv a h)
    · exact w'.fr a h
def rListOf (K : PySem.W.Frag) : List V → Hp → VK → Prop := fun xs H Q => ∃ p ys, xs = [.ref p] ∧ (SqL K H p ys ∨ SqT K H p ys) ∧ ∀ l, H l = none → Q (.ref l) (upd H l (.lst ys))
end
end FD
namespace FD
open PySem PySem.Spec PyProof.Rows L2
section
variable {X : Cx} {a : Expr} {ta : TE}
theorem op_addK {K : PySem.W.Frag} (hK : X.K = K := by rfl) : OpR X (binaryOp .Add) (rAddA K) := hK ▸ op_addA
theorem ix_seqK {K : PySem.W.Frag} (hK : X.K = K := by rfl) : IxR X (rIx K) := hK ▸ ix_seq
theorem pt_tru {K : PySem.W.Frag} (ha : PE X a ta) (hK : X.K = K := by rfl) (he : ∀ whole, isTrue a X.env whole = (do let v ← whole; standAt a.pos; holding [v] (truthy v)) := by intro _; rfl) : PT X a (tTru K ta) := hK ▸ pt_truth ha he
end
section
variable {K : PySem.W.Frag} {m : Md} {Γ Γ1 Γ2 : List Sl} {te to : TE} {i : Int} {a : Str} {ys : List Str} {d : D}
theorem filter_true {α : Type} (l : List α) : l.filter (fun _ => true) = l := List.filter_eq_self.mpr fun _ _ => rfl
theorem isA_strs {I : Hp} {vs : List V} : IsA K I vs (ys.map .str) ↔ vs = ys.map V.str := by
  induction ys generalizing vs with
  | nil =>
    constructor
    · intro h; cases h; rfl
    · rintro rfl; exact .nil
  | cons n ns ih =>
    constructor
    · intro h
      cases h with
      | cons h1 h2 => cases h1; rw [ih.mp h2]; rfl
    · rintro rfl
      exact .cons (.str n) (ih.mpr rfl)
def rJoin (K : PySem.W.Frag) : V → List V → Hp → VK → Prop := fun x xs H Q => ∃ a p, ∃ ys : List Str, x = .str a ∧ xs = [.ref p] ∧ (SqL K H p (ys.map V.str) ∨ SqT K H p (ys.map V.str)) ∧
      (ys.map (·.length)).sum + ys.length * a.length ≤ 16777216 ∧ Q (.str (Txt.join a ys)) H
end
end FD
namespace FD
open PySem PySem.Spec PyProof.Rows L2
theorem hu65 {A : Around} {k : Nat} (hr : Room k A) : A.units + 65 < cLine := by have := hr.un; omega
inductive WkR : List Sl → List Sl → Prop
  | nil : WkR [] []
  | keep {x : Sl} {Γ Γ' : List Sl} : WkR Γ Γ' → WkR (x :: Γ) (x :: Γ')
  | res {v : V} {R R' : Res} {Γ Γ' : List Sl} (h : ∀ I H L, R.P I v H L → R'.P I v H L) : WkR Γ Γ' → WkR (.res v R :: Γ) (.res v R' :: Γ')
theorem WkR.refl : ∀ Γ : List Sl, WkR Γ Γ
  | [] => .nil
  | _ :: Γ => .keep (WkR.refl Γ)
end FD
namespace PySem.W
open PySem PySem.Spec PyProof.Rows
mutual
theorem fd_live {h : Heap} : ∀ {v : Value} {d : PyData} {as : List Addr}, Reads h v d as → ∀ b ∈ as, ∃ o, h.get? b = some o
  | _, _, _, .none => fun b hb => by simp at hb
  | _, _, _, .bool b => fun b hb => by simp at hb
  | _, _, _, .int i t => fun b hb => by simp at hb
  | _, _, _, .str x t => fun b hb => by simp at hb
  | _, _, _, .list h1 h2 h3 h4 => fun b hb => by
    rcases List.mem_cons.mp hb with rfl | hb
    · exact ⟨_, h1⟩
    · exact fd_liveAll h4 b hb
  | _, _, _, .tuple h1 h2 h3 h4 => fun b hb => fd_liveAll h4 b hb
  | _, _, _, .dict h1 h2 h3 h4 h5 => fun b hb => by
    rcases List.mem_append.mp hb with hb | hb
    · rcases List.mem_cons.mp hb with rfl | hb
      · exact ⟨_, h1⟩
      · exact fd_liveAll h4 b hb
    · exact fd_liveAll h5 b hb
theorem fd_liveAll {h : Heap} : ∀ {vs : List Value} {ds : List PyData} {as : List Addr}, ReadsAll h vs ds as → ∀ b ∈ as, ∃ o, h.get? b = some o
  | _, _, _, .nil => fun b hb => by simp at hb
  | _, _, _, .cons h1 h2 => fun b hb => (List.mem_append.mp hb).elim (fd_live h1 b) (fd_liveAll h2 b)
end
end PySem.W
namespace FD
open PySem PySem.Spec PyProof.Rows L2
theorem each_get {α β : Type} {R : α → β → Prop} {xs : List α} {ys : List β} (hl : xs.length = ys.length) (h : ∀ (j : Nat) (x : α) (y : β), xs[j]? = some x → ys[j]? = some y → R x y) : PySem.W.EachIs R xs ys := by
  induction xs generalizing ys with
  | nil =>
    cases ys with
    | nil => exact .nil
    | cons _ _ => simp at hl
  | cons x xs ih =>
    cases ys with
    | nil => simp at hl
    | cons y ys => exact .cons (h 0 x y rfl rfl) (ih (by simpa using hl) fun j a b p q => h (j + 1) a b (by simpa using p) (by simpa using q))
end FD
namespace FD
open PySem PySem.Spec PyProof.Rows L2
theorem pyA_map : ∀ (ds : List D), D.pyA ds = ds.map D.py
  | [] => rfl
  | d :: ds => by rw [D.pyA, pyA_map ds]; rfl
end FD
namespace FD
open PySem PySem.Spec PyProof.Rows L2
end FD
namespace FD
open PySem PySem.Spec PyProof.Rows L2
def rInTD (K : PySem.W.Frag) (ng : Bool) : R2 := fun x y H Q => ∃ d ds, Dp K H x d ∧ Dp K H y (.tuple ds) ∧ SeqAt.shaped d = true ∧ SeqAt.shaped (.tuple ds) = true ∧ Q (.bl ((ds.any fun z => PyData.eqv z d) ^^ ng)) H
section
variable {X : Cx}
theorem op_inTD (hu : X.A.units + 65 < cLine) : OpR X (compareOp .In) (rInTD X.K false) := by
  intro pins s σ H x y v u Q I rx ry hq
  obtain ⟨d, ds, hd, he, sd, se, q⟩ := hq
  obtain ⟨as, r1⟩ := Dp.reads I d x v hd rx
  obtain ⟨bs, r2⟩ := Dp.reads I (.tuple ds) y u he ry
  rw [Bool.xor_false] at q
  exact SeqAt.in_tuple_reads r2 r1 (SeqAt.canLay_of_shaped se) (SeqAt.canLay_of_shaped sd) (room_in_shaped sd hu) ⟨.bl _, H, I, rfl, q⟩
theorem op_notInTD (hu : X.A.units + 65 < cLine) : OpR X (compareOp .NotIn) (rInTD X.K true) := by
  intro pins s σ H x y v u Q I rx ry hq
  obtain ⟨d, ds, hd, he, sd, se, q⟩ := hq
  obtain ⟨as, r1⟩ := Dp.reads I d x v hd rx
  obtain ⟨bs, r2⟩ := Dp.reads I (.tuple ds) y u he ry
  rw [Bool.xor_true] at q
  exact SeqAt.notIn_tuple_reads r2 r1 (SeqAt.canLay_of_shaped se) (SeqAt.canLay_of_shaped sd) (room_in_shaped sd hu) ⟨.bl _, H, I, rfl, q⟩
end
section
variable {K : PySem.W.Frag} {m : Md} {Γ Γ1 Γ2 Γ3 : List Sl} {ta tb tc te : TE} {x y z u : D} {r r' : R2} {a b : Bool} {ds : List D} {ng : Bool}
theorem py_tup (ds : List D) : (D.tup ds).py = .tuple (D.pyA ds) := by simp [D.py]
theorem opd_inTD (hx : x.shaped = true) (hy : (D.tup ds).shaped = true) : OpD K (rInTD K ng) x (.tup ds) (.bl ((ds.any fun z => D.eqv z x) ^^ ng)) := fun I H v w s hv hw => by
  simp only [D.shaped, Bool.and_eq_true] at hx hy
  have h2 := Is.dp s hy.1 hw
  rw [py_tup] at h2
  refine pureR_here s (.bl _) fun Q q => ⟨x.py, D.pyA ds, Is.dp s hx.1 hv, h2, hx.2, by have := hy.2; rwa [py_tup] at this, ?_⟩
  have e : (D.pyA ds).any (fun z => PyData.eqv z x.py) = ds.any fun z => D.eqv z x := by
    rw [pyA_map, List.any_map]
    rfl
  rw [e]
  exact q
theorem isA_bls {I : Hp} {vs : List V} {bs : List Bool} (h : IsA K I vs (bs.map .bl)) : vs = bs.map V.bl := by
  induction bs generalizing vs with
  | nil => cases h; rfl
  | cons b bs ih =>
    cases h with
    | cons h1 h2 => cases h1; rw [ih h2]; rfl
theorem cd_all {bs : List Bool} : CallD K (rAll K) [.lst (bs.map .bl)] (.bl (bs.all id)) := fun I H vs s hv => by
  cases hv with
  | cons h1 h2 =>
    cases h2
    cases h1 with
    | lst q1 q2 =>
      have e := isA_bls q2
      subst e
      exact pureR_here s (.bl _) fun Q q => ⟨_, bs, rfl, s.l q1, q⟩
def rTupOf (K : PySem.W.Frag) : List V → Hp → VK → Prop := fun xs H Q => ∃ p ys, xs = [.ref p] ∧ ((SqL K H p ys ∧ ∀ l, H l = none → Q (.ref l) (upd H l (.tup ys))) ∨ (SqT K H p ys ∧ Q (.ref p) H))
end
end FD
namespace FD
open PySem PySem.Spec PyProof.Rows L2
inductive T where
  | em | d (x : D) | lst (ds : List D) | dic (ks : List Key) (ts : List T) | obj (C : Addr) (ns : List Str) (ts : List T)
/-- a step into a tree: the i-th child -/
abbrev Pth := List Nat
mutual
inductive Ow (K : PySem.W.Frag) (I H : Hp) : V → T → List Addr → Prop
  | em (v : V) : Ow K I H v .em []
  | d {v : V} {x : D} : Is K I v x → Ow K I H v (.d x) []
  | lst {a : Addr} {xs : List V} {ds : List D} : H a = some (.lst xs) → IsA K I xs ds → Ow K I H (.ref a) (.lst ds) [a]
  | dic {a : Addr} {kvs : List (Key × V)} {ks : List Key} {ts : List T} {L : List Addr} : H a = some (.dK kvs) → ks = kvs.map (·.1) → OwA K I H (kvs.map (·.2)) ts L → Ow K I H (.ref a) (.dic ks ts) (a :: L)
  | obj {a dx : Addr} {fs : List (Str × V)} {C : Addr} {ns : List Str} {ts : List T} {L : List Addr} : a ≠ dx → H a = some (.ins C dx fs) → H dx = some (.own a) → ns = fs.map (·.1) → OwA K I H (fs.map (·.2)) ts L → Ow K I H (.ref a) (.obj C ns ts) (a :: dx :: L)
inductive OwA (K : PySem.W.Frag) (I H : Hp) : List V → List T → List Addr → Prop
  | nil : OwA K I H [] [] []
  | cons {v : V} {vs : List V} {t : T} {ts : List T} {L1 L2 : List Addr} : Ow K I H v t L1 → OwA K I H vs ts L2 → OwA K I H (v :: vs) (t :: ts) (L1 ++ L2)
end
section
variable {K : PySem.W.Frag} {I I' H H' : Hp}
mutual
theorem Ow.keep (e : Ex I I') : ∀ {t : T} {v : V} {L : List Addr}, (∀ a ∈ L, H' a = H a) → Ow K I H v t L → Ow K I' H' v t L
  | .em, _, _, _, h => by cases h; exact .em _
  | .d _, _, _, _, h => by
    cases h with
    | d h => exact .d (h.mono e)
  | .lst _, _, _, k, h => by
    cases h with
    | lst h1 h2 => exact .lst ((k _ (by simp)).trans h1) (h2.mono e)
  | .dic ks ts, _, _, k, h => by
    cases h with
    | dic h1 h2 h3 => exact .dic ((k _ (by simp)).trans h1) h2 (OwA.keep e (fun a ha => k a (by simp [ha])) h3)
  | .obj C ns ts, _, _, k, h => by
    cases h with
    | obj h0 h1 h2 h3 h4 => exact .obj h0 ((k _ (by simp)).trans h1) ((k _ (by simp)).trans h2) h3 (OwA.keep e (fun a ha => k a (by simp [ha])) h4)
theorem OwA.keep (e : Ex I I') : ∀ {ts : List T} {vs : List V} {L : List Addr}, (∀ a ∈ L, H' a = H a) → OwA K I H vs ts L → OwA K I' H' vs ts L
  | [], _, _, _, h => by cases h; exact .nil
  | t :: ts, _, _, k, h => by
    cases h with
    | cons h1 h2 => exact .cons (Ow.keep e (fun a ha => k a (List.mem_append_left _ ha)) h1) (OwA.keep e (fun a ha => k a (List.mem_append_right _ ha)) h2)
end
mutual
theorem Ow.live : ∀ {t : T} {v : V} {L : List Addr}, Ow K I H v t L → ∀ a ∈ L, H a ≠ none
  | .em, _, _, h, a, ha => by cases h; simp at ha
  | .d _, _, _, h, a, ha => by cases h; simp at ha
  | .lst _, _, _, h, a, ha => by
    cases h with
    | lst h1 h2 => simp at ha; subst ha; rw [h1]; exact fun z => nomatch z
  | .dic ks ts, _, _, h, a, ha => by
    cases h with
    | dic h1 h2 h3 =>
      rcases List.mem_cons.mp ha with rfl | ha
      · rw [h1]; exact fun z => nomatch z
      · exact OwA.live h3 a ha
  | .obj C ns ts, _, _, h, a, ha => by
    cases h with
    | obj h0 h1 h2 h3 h4 =>
      rcases List.mem_cons.mp ha with rfl | ha
      · rw [h1]; exact fun z => nomatch z
      · rcases List.mem_cons.mp ha with rfl | ha
        · rw [h2]; exact fun z => nomatch z
        · exact OwA.live h4 a ha
theorem OwA.live : ∀ {ts : List T} {vs : List V} {L : List Addr}, OwA K I H vs ts L → ∀ a ∈ L, H a ≠ none
  | [], _, _, h, a, ha => by cases h; simp at ha
  | t :: ts, _, _, h, a, ha => by
    cases h with
    | cons h1 h2 => exact (List.mem_append.mp ha).elim (Ow.live h1 a) (OwA.live h2 a)
end
theorem OwA.len : ∀ {ts : List T} {vs : List V} {L : List Addr}, OwA K I H vs ts L → vs.length = ts.length
  | [], _, _, h => by cases h; rfl
  | t :: ts, _, _, h => by
    cases h with
    | cons h1 h2 => simp [OwA.len h2]
end
mutual
def T.toD : T → Option D
  | .em => none
  | .d x => some x
  | .lst ds => some (.lst ds)
  | .dic ks ts => (T.toDs ts).map (.dic ks)
  | .obj C ns ts => (T.toDs ts).map (.ins C ns)
def T.toDs : List T → Option (List D)
  | [] => some []
  | t :: ts => match t.toD, T.toDs ts with
    | some x, some xs => some (x :: xs)
    | _, _ => none
end
/-- a part I of the heap with more frozen: only of L -/
structure Fz (I I' H : Hp) (L : List Addr) : Prop where
  i : Ex I I'
  s : Ex I' H
  n : ∀ a o, I' a = some o → I a = some o ∨ a ∈ L
section
variable {K : PySem.W.Frag} {I I' H H' : Hp}
theorem Fz.one {a : Addr} {o : HO} {L : List Addr} (s : Ex I H) (hI : I a = none) (hH : H a = some o) (h : a ∈ L) : Fz I (upd I a o) H L := ⟨Ex.new hI, fun b u e => by
  by_cases hb : b = a
  · subst hb; rw [upd_same] at e; cases e; exact hH
  · rw [upd_ne hb] at e; exact s b u e, fun b u e => by
  by_cases hb : b = a
  · subst hb; exact .inr h
  · rw [upd_ne hb] at e; exact .inl e⟩
theorem Fz.trans {I1 I2 : Hp} {L1 L2 L : List Addr} (a : Fz I I1 H L1) (b : Fz I1 I2 H L2) (h1 : ∀ x ∈ L1, x ∈ L) (h2 : ∀ x ∈ L2, x ∈ L) : Fz I I2 H L := ⟨a.i.trans b.i, b.s, fun x o e => (b.n x o e).elim (fun e => (a.n x o e).elim .inl fun z => .inr (h1 x z)) fun z => .inr (h2 x z)⟩
theorem Fz.out {L : List Addr} {a : Addr} (f : Fz I I' H L) (h : I a = none) (n : a ∉ L) : I' a = none := by
  cases e : I' a with
  | none => rfl
  | some o => exact (f.n a o e).elim (fun q => by rw [h] at q; cases q) fun q => absurd q n
mutual
theorem Ow.frz : ∀ {t : T} {v : V} {x : D} {I : Hp} {L : List Addr}, Ow K I H v t L → t.toD = some x → L.Nodup → (∀ a ∈ L, I a = none) → Ex I H → ∃ I', Fz I I' H L ∧ Is K I' v x
  | .em, _, _, _, _, _, e, _, _, _ => by simp [T.toD] at e
  | .d _, _, _, I, _, h, e, _, _, s => by
    simp [T.toD] at e
    subst e
    cases h with
    | d h => exact ⟨I, ⟨Ex.refl I, s, fun _ _ h => .inl h⟩, h⟩
  | .lst ds, _, _, I, _, h, e, nd, fr, s => by
    simp [T.toD] at e
    subst e
    cases h with
    | @lst a xs _ h1 h2 =>
      have f := Fz.one (L := [a]) s (fr a (by simp)) h1 (by simp)
      exact ⟨_, f, .lst (sq_of upd_same) (h2.mono f.i)⟩
  | .dic ks ts, _, _, I, _, h, e, nd, fr, s => by
    rw [T.toD] at e
    cases e1 : T.toDs ts with
    | none => simp [e1] at e
    | some xs =>
      simp [e1] at e
      subst e
      cases h with
      | @dic a kvs _ _ L h1 h2 h3 =>
        have nd' := List.nodup_cons.mp nd
        obtain ⟨I1, f1, q⟩ := OwA.frz h3 e1 nd'.2 (fun b hb => fr b (by simp [hb])) s
        have hI1 : I1 a = none := f1.out (fr a (by simp)) nd'.1
        have f2 := Fz.one (L := [a]) f1.s hI1 h1 (by simp)
        refine ⟨_, f1.trans f2 (fun x h => by simp [h]) (fun x h => by simp at h; simp [h]), .dic (Or.inl upd_same) h2 (q.mono f2.i)⟩
  | .obj C ns ts, _, _, I, _, h, e, nd, fr, s => by
    rw [T.toD] at e
    cases e1 : T.toDs ts with
    | none => simp [e1] at e
    | some xs =>
      simp [e1] at e
      subst e
      cases h with
      | @obj a dx fs _ _ _ L h0 h1 h2 h3 h4 =>
        have nd' := List.nodup_cons.mp nd
        have nd2 := List.nodup_cons.mp nd'.2
        obtain ⟨I1, f1, q⟩ := OwA.frz h4 e1 nd2.2 (fun b hb => fr b (by simp [hb])) s
        have hI1 : I1 a = none := f1.out (fr a (by simp)) (fun h => nd'.1 (by simp [h]))
        have f2 := Fz.one (L := [a]) f1.s hI1 h1 (by simp)
        refine ⟨_, f1.trans f2 (fun x h => by simp [h]) (fun x h => by simp at h; simp [h]), .ins upd_same h3 (q.mono f2.i)⟩
theorem OwA.frz : ∀ {ts : List T} {vs : List V} {xs : List D} {I : Hp} {L : List Addr}, OwA K I H vs ts L → T.toDs ts = some xs → L.Nodup → (∀ a ∈ L, I a = none) → Ex I H → ∃ I', Fz I I' H L ∧ IsA K I' vs xs
  | [], _, _, I, _, h, e, _, _, s => by
    simp [T.toDs] at e
    subst e
    cases h
    exact ⟨I, ⟨Ex.refl I, s, fun _ _ h => .inl h⟩, .nil⟩
  | t :: ts, _, _, I, _, h, e, nd, fr, s => by
    rw [T.toDs] at e
    cases e1 : t.toD with
    | none => simp [e1] at e
    | some x =>
      cases e2 : T.toDs ts with
      | none => simp [e1, e2] at e
      | some xs =>
        simp [e1, e2] at e
        subst e
        cases h with
        | @cons v vs _ _ L1 L2 h1 h2 =>
          have nd' := List.nodup_append.mp nd
          obtain ⟨I1, f1, q1⟩ := Ow.frz h1 e1 nd'.1 (fun b hb => fr b (by simp [hb])) s
          have h2' : OwA K I1 H vs ts L2 := h2.keep f1.i fun _ _ => rfl
          obtain ⟨I2, f2, q2⟩ := OwA.frz h2' e2 nd'.2.1 (fun b hb => f1.out (fr b (by simp [hb])) fun z => nd'.2.2 b z b hb rfl) f1.s
          exact ⟨I2, f1.trans f2 (fun x h => by simp [h]) (fun x h => by simp [h]), .cons (q1.mono f2.i) q2⟩
end
end
inductive EnvT (K : PySem.W.Frag) (I H : Hp) : List T → Sg → List Addr → Prop
  | nil : EnvT K I H [] [] []
  | em {γ : List T} {σ : Sg} {L : List Addr} (x : Option V) : EnvT K I H γ σ L → EnvT K I H (.em :: γ) (x :: σ) L
  | cons {γ : List T} {σ : Sg} {t : T} {v : V} {L1 L2 : List Addr} : Ow K I H v t L1 → EnvT K I H γ σ L2 → EnvT K I H (t :: γ) (some v :: σ) (L1 ++ L2)
structure WS (K : PySem.W.Frag) (γ : List T) (σ : Sg) (I H : Hp) (L : List Addr) : Prop where
  env : EnvT K I H γ σ L
  nd : L.Nodup
  fr : ∀ a ∈ L, I a = none
  sub : Ex I H
section
variable {K : PySem.W.Frag} {I I' H H' : Hp} {γ γ' : List T} {σ : Sg} {L L' : List Addr} {t t' : T} {v : V} {x : D}
theorem EnvT.live : ∀ {γ : List T} {σ : Sg} {L : List Addr}, EnvT K I H γ σ L → ∀ a ∈ L, H a ≠ none
  | _, _, _, .nil, _, h => by simp at h
  | _, _, _, .em _ e, a, h => e.live a h
  | _, _, _, .cons p e, a, h => (List.mem_append.mp h).elim (p.live a) (e.live a)
theorem EnvT.len : ∀ {γ : List T} {σ : Sg} {L : List Addr}, EnvT K I H γ σ L → γ.length = σ.length
  | _, _, _, .nil => rfl
  | _, _, _, .em _ e => by simp [e.len]
  | _, _, _, .cons _ e => by simp [e.len]
theorem EnvT.keep (e : Ex I I') : ∀ {γ : List T} {σ : Sg} {L : List Addr}, (∀ a ∈ L, H' a = H a) → EnvT K I H γ σ L → EnvT K I' H' γ σ L
  | _, _, _, _, .nil => .nil
  | _, _, _, k, .em x q => .em x (q.keep e k)
  | _, _, _, k, .cons p q => .cons (p.keep e fun a h => k a (List.mem_append_left _ h)) (q.keep e fun a h => k a (List.mem_append_right _ h))
theorem WS.live (w : WS K γ σ I H L) : ∀ a ∈ L, H a ≠ none := w.env.live
theorem WS.new (w : WS K γ σ I H L) (n : New I H I' H') (s : Ex I' H') : WS K γ σ I' H' L where
  env := w.env.keep n.i fun a h => by
    cases e : H a with
    | none => exact absurd e (w.live a h)
    | some o => exact n.h a o e
  nd := w.nd
  fr a h := by
    cases e : I' a with
    | none => rfl
    | some o =>
      rcases n.n a o e with q | q
      · rw [w.fr a h] at q; cases q
      · exact absurd q (w.live a h)
  sub := s
/-- a slot taken out: what stands around it -/
theorem EnvT.get : ∀ {γ : List T} {σ : Sg} {L : List Addr} {i : Nat} {t : T}, EnvT K I H γ σ L → γ[i]? = some t → t ≠ .em → ∃ v, σ[i]? = some (some v) ∧ ∃ L1 Li L2, L = L1 ++ (Li ++ L2) ∧ Ow K I H v t Li ∧
    ∀ (I' H' : Hp) (t' : T) (v' : V) (Li' : List Addr), Ex I I' → (∀ a, a ∈ L1 ++ L2 → H' a = H a) → Ow K I' H' v' t' Li' → EnvT K I' H' (γ.set i t') (σ.set i (some v')) (L1 ++ (Li' ++ L2))
  | _, _, _, _, _, .nil, h, _ => by simp at h
  | _, _, _, 0, _, .em _ _, h, n => by simp at h; exact absurd h.symm n
  | _, _, _, 0, _, .cons (L1 := Li) (L2 := L2) (v := v) p e, h, _ => by
    simp at h
    subst h
    exact ⟨v, rfl, [], Li, L2, rfl, p, fun I' H' t' v' Li' ei k q => (EnvT.cons (L1 := Li') (L2 := L2) q (e.keep ei fun a h => k a (by simpa using h)) : EnvT K I' H' _ _ (Li' ++ L2))⟩
  | _, _, _, i + 1, t, .em x e, h, n => by
    obtain ⟨v, h1, L1, Li, L2, h2, h3, h4⟩ := EnvT.get (i := i) (t := t) e (by simpa using h) n
    exact ⟨v, by simpa using h1, L1, Li, L2, h2, h3, fun I' H' t' v' Li' ei k q => .em x (h4 I' H' t' v' Li' ei k q)⟩
  | _, _, _, i + 1, t, .cons (L1 := L0) p e, h, n => by
    obtain ⟨v, h1, L1, Li, L2, h2, h3, h4⟩ := EnvT.get (i := i) (t := t) e (by simpa using h) n
    refine ⟨v, by simpa using h1, L0 ++ L1, Li, L2, by rw [h2, List.append_assoc], h3, fun I' H' t' v' Li' ei k q => ?_⟩
    rw [List.append_assoc]
    exact .cons (p.keep ei fun a h => k a (List.mem_append_left _ (List.mem_append_left _ h))) (h4 I' H' t' v' Li' ei (fun a h => k a (by
      rcases List.mem_append.mp h with h | h
      · exact List.mem_append_left _ (List.mem_append_right _ h)
      · exact List.mem_append_right _ h)) q)
/-- data in a slot -/
theorem EnvT.getD : ∀ {γ : List T} {σ : Sg} {L : List Addr} {i : Nat} {x : D}, EnvT K I H γ σ L → γ[i]? = some (.d x) → ∃ v, σ[i]? = some (some v) ∧ Is K I v x := fun {γ σ L i x} e h => by
  obtain ⟨v, h1, L1, Li, L2, h2, h3, _⟩ := e.get h (fun z => nomatch z)
  cases h3 with
  | d h3 => exact ⟨v, h1, h3⟩
/-- a slot is set, whatever was there, to a tree whose footprint is apart -/
theorem EnvT.setN : ∀ {γ : List T} {σ : Sg} {L : List Addr} (i : Nat) {L1 : List Addr}, i < γ.length → EnvT K I H γ σ L → Ow K I H v t L1 → (L1 ++ L).Nodup → ∃ L', L'.Nodup ∧ (∀ a ∈ L', a ∈ L1 ++ L) ∧ EnvT K I H (γ.set i t) (σ.set i (some v)) L'
  | _, _, _, i, _, h, .nil, _, _ => by simp at h
  | _, _, _, 0, _, _, .em _ e, p, nd => ⟨_, nd, fun a h => h, .cons p e⟩
  | _, _, _, 0, L1, _, .cons (L1 := M1) (L2 := M2) _ e, p, nd => by
    have nd1 := List.nodup_append.mp nd
    have nd2 := List.nodup_append.mp nd1.2.1
    exact ⟨L1 ++ M2, List.nodup_append.mpr ⟨nd1.1, nd2.2.1, fun a h b hb => nd1.2.2 a h b (by simp [hb])⟩, fun a h => by simp at h ⊢; rcases h with h | h; exact .inl h; exact .inr (.inr h), .cons p e⟩
  | _, _, _, i + 1, _, h, .em x e, p, nd => let ⟨L', n, s, r⟩ := EnvT.setN i (by simpa using h) e p nd; ⟨L', n, s, .em x r⟩
  | _, _, _, i + 1, L1, h, .cons (L1 := M1) (L2 := M2) q e, p, nd => by
    have nd1 := List.nodup_append.mp nd
    have nd2 := List.nodup_append.mp nd1.2.1
    have ndx : (L1 ++ M2).Nodup := List.nodup_append.mpr ⟨nd1.1, nd2.2.1, fun a h b hb => nd1.2.2 a h b (by simp [hb])⟩
    obtain ⟨L', n, s, r⟩ := EnvT.setN i (by simpa using h) e p ndx
    refine ⟨M1 ++ L', List.nodup_append.mpr ⟨nd2.1, n, fun a h b hb e => ?_⟩, fun a h => ?_, .cons q r⟩
    · subst e
      rcases List.mem_append.mp (s a hb) with q | q
      · exact nd1.2.2 a q a (by simp [h]) rfl
      · exact nd2.2.2 a h a q rfl
    · rcases List.mem_append.mp h with h | h
      · simp [h]
      · have := s a h; simp at this ⊢; rcases this with q | q; exact .inl q; exact .inr (.inr q)
theorem EnvT.setE (y : Option V) : ∀ {γ : List T} {σ : Sg} {L : List Addr} (i : Nat), EnvT K I H γ σ L → ∃ L', L'.Sublist L ∧ EnvT K I H (γ.set i .em) (σ.set i y) L'
  | _, _, _, _, .nil => ⟨[], List.Sublist.refl _, .nil⟩
  | _, _, _, 0, .em _ e => ⟨_, List.Sublist.refl _, .em _ e⟩
  | _, _, _, 0, .cons (L1 := L1) _ e => ⟨_, List.sublist_append_right _ _, .em _ e⟩
  | _, _, _, i + 1, .em x e => let ⟨L', s, r⟩ := EnvT.setE y i e; ⟨L', s, .em x r⟩
  | _, _, _, i + 1, .cons (L1 := L1) p e => let ⟨L', s, r⟩ := EnvT.setE y i e; ⟨L1 ++ L', List.Sublist.append_left s _, .cons p r⟩
theorem WS.setE (w : WS K γ σ I H L) (y : Option V) (i : Nat) : ∃ L', WS K (γ.set i .em) (σ.set i y) I H L' ∧ Step I H L I H L' := by
  obtain ⟨L', s, e⟩ := w.env.setE y i
  exact ⟨L', ⟨e, w.nd.sublist s, fun a h => w.fr a (s.subset h), w.sub⟩, Step.sublist s⟩
/-- from the front into a slot -/
theorem WS.setN {i : Nat} (w : WS K (t :: γ) (some v :: σ) I H L) (hi : i < γ.length) (ht : t ≠ .em) : ∃ L', WS K (γ.set i t) (σ.set i (some v)) I H L' ∧ Step I H L I H L' := by
  have e := w.env
  cases e with
  | em => exact absurd rfl ht
  | @cons _ _ _ _ L1 L2 p e =>
    obtain ⟨L', n, s, r⟩ := EnvT.setN i hi e p w.nd
    exact ⟨L', ⟨r, n, fun a h => w.fr a (s a h), w.sub⟩, ⟨Ex.refl I, fun _ _ h _ => h, fun a h => .inl (s a h), fun _ _ h => .inl h⟩⟩
theorem WS.front (w : WS K γ σ I H L) (h : Is K I v x) : WS K (.d x :: γ) (some v :: σ) I H L := ⟨.cons (L1 := []) (.d h) w.env, w.nd, w.fr, w.sub⟩
theorem WS.tail (w : WS K (t :: γ) (y :: σ) I H L) : ∃ L', WS K γ σ I H L' ∧ Step I H L I H L' ∧ (∀ x, t = .d x → L' = L ∧ ∃ v, y = some v ∧ Is K I v x) := by
  have e := w.env
  cases e with
  | em _ e => exact ⟨L, ⟨e, w.nd, w.fr, w.sub⟩, Step.refl _ _ _, fun x h => nomatch h⟩
  | @cons _ _ _ v L1 L2 p e =>
    have nd := List.nodup_append.mp w.nd
    refine ⟨L2, ⟨e, nd.2.1, fun a h => w.fr a (by simp [h]), w.sub⟩, Step.sublist (List.sublist_append_right _ _), fun x h => ?_⟩
    subst h
    cases p with
    | d p => exact ⟨rfl, v, rfl, p⟩
/-- the front freezes -/
theorem WS.frz (w : WS K (t :: γ) (some v :: σ) I H L) (h : t.toD = some x) : ∃ I' L', WS K γ σ I' H L' ∧ Step I H L I' H L' ∧ Is K I' v x := by
  have e := w.env
  cases e with
  | em => simp [T.toD] at h
  | @cons _ _ _ _ L1 L2 p e =>
    have nd := List.nodup_append.mp w.nd
    obtain ⟨I', f, q⟩ := p.frz h nd.1 (fun a ha => w.fr a (by simp [ha])) w.sub
    refine ⟨I', L2, ⟨e.keep f.i fun _ _ => rfl, nd.2.1, fun a ha => f.out (w.fr a (by simp [ha])) fun z => nd.2.2 a z a ha rfl, f.s⟩, ⟨f.i, fun _ _ h _ => h, fun a ha => .inl (by simp [ha]), fun a o ha => (f.n a o ha).elim .inl fun z => .inr (.inl (by simp [z]))⟩, q⟩
/-- what stands beside a held part -/
theorem WS.hold {y : Option V} (w : WS K (t :: γ) (y :: σ) I H L) : ∃ L1 L2, L = L1 ++ L2 ∧ WS K γ σ I H L2 ∧ ∀ {γ2 : List T} {σ2 : Sg} {I' H' : Hp} {L2' : List Addr}, WS K γ2 σ2 I' H' L2' → Step I H L2 I' H' L2' →
    WS K (t :: γ2) (y :: σ2) I' H' (L1 ++ L2') ∧ Step I H (L1 ++ L2) I' H' (L1 ++ L2') := by
  have e := w.env
  cases e with
  | em _ e => exact ⟨[], L, rfl, ⟨e, w.nd, w.fr, w.sub⟩, fun w' s => ⟨⟨.em _ w'.env, w'.nd, w'.fr, w'.sub⟩, s⟩⟩
  | @cons _ _ _ v L1 L2 p e =>
    have nd := List.nodup_append.mp w.nd
    refine ⟨L1, L2, rfl, ⟨e, nd.2.1, fun a h => w.fr a (by simp [h]), w.sub⟩, fun {γ2 σ2 I' H' L2'} w' s => ?_⟩
    have lv : ∀ a ∈ L1, H a ≠ none := fun a h => p.live a h
    have out : ∀ a ∈ L1, a ∉ L2 := fun a h q => nd.2.2 a h a q rfl
    have kp : ∀ a ∈ L1, H' a = H a := fun a h => by
      cases e : H a with
      | none => exact absurd e (lv a h)
      | some o => exact s.keep a o e (out a h)
    have ap : ∀ a ∈ L1, a ∉ L2' := fun a h q => (s.l a q).elim (out a h) (lv a h)
    refine ⟨⟨.cons (p.keep s.i kp) w'.env, List.nodup_append.mpr ⟨nd.1, w'.nd, fun a h b hb e => ap a h (e ▸ hb)⟩, fun a h => ?_, w'.sub⟩, s.frame L1⟩
    rcases List.mem_append.mp h with h | h
    · cases e : I' a with
      | none => rfl
      | some o =>
        rcases s.n a o e with q | q | q
        · rw [w.fr a (by simp [h])] at q; cases q
        · exact absurd q (out a h)
        · exact absurd q (lv a h)
    · exact w'.fr a h
def T.kids : T → List T
  | .dic _ ts => ts
  | .obj _ _ ts => ts
  | _ => []
def T.setKid (t : T) (i : Nat) (u : T) : T := match t with
  | .dic ks ts => .dic ks (ts.set i u)
  | .obj C ns ts => .obj C ns (ts.set i u)
  | t => t
def T.at_ (t : T) : Pth → Option T
  | [] => some t
  | i :: p => match t.kids[i]? with
    | some u => u.at_ p
    | none => none
def T.put (t : T) : Pth → T → T
  | [], u => u
  | i :: p, u => match t.kids[i]? with
    | some k => t.setKid i (k.put p u)
    | none => t
theorem OwA.get : ∀ {ts : List T} {vs : List V} {L : List Addr} {i : Nat} {t : T}, OwA K I H vs ts L → ts[i]? = some t → ∃ v, vs[i]? = some v ∧ ∃ L1 Li L2, L = L1 ++ (Li ++ L2) ∧ Ow K I H v t Li ∧
    ∀ (I' H' : Hp) (t' : T) (Li' : List Addr), Ex I I' → (∀ a, a ∈ L1 ++ L2 → H' a = H a) → Ow K I' H' v t' Li' → OwA K I' H' vs (ts.set i t') (L1 ++ (Li' ++ L2))
  | [], _, _, _, _, _, h => by simp at h
  | _ :: ts, _, _, 0, _, q, h => by
    cases q with
    | @cons v vs _ _ Li L2 p e =>
      simp at h
      subst h
      exact ⟨v, rfl, [], Li, L2, rfl, p, fun I' H' t' Li' ei k q => (OwA.cons (L1 := Li') (L2 := L2) q (e.keep ei fun a h => k a (by simpa using h)) : OwA K I' H' _ _ (Li' ++ L2))⟩
  | _ :: ts, _, _, i + 1, t, q, h => by
    cases q with
    | @cons v0 vs _ _ L0 _ p e =>
      obtain ⟨v, h1, L1, Li, L2, h2, h3, h4⟩ := OwA.get (i := i) (t := t) e (by simpa using h)
      refine ⟨v, by simpa using h1, L0 ++ L1, Li, L2, by rw [h2, List.append_assoc], h3, fun I' H' t' Li' ei k q => ?_⟩
      rw [List.append_assoc]
      exact .cons (p.keep ei fun a h => k a (List.mem_append_left _ (List.mem_append_left _ h))) (h4 I' H' t' Li' ei (fun a h => k a (by
        rcases List.mem_append.mp h with h | h
        · exact List.mem_append_left _ (List.mem_append_right _ h)
        · exact List.mem_append_right _ h)) q)
/-- the value at a path below a value -/
inductive At (H : Hp) : V → T → Pth → V → Prop
  | nil {v : V} {t : T} : At H v t [] v
  | dic {a : Addr} {kvs : List (Key × V)} {ks : List Key} {ts : List T} {i : Nat} {v w : V} {t : T} {p : Pth} : H a = some (.dK kvs) → (kvs.map (·.2))[i]? = some v → ts[i]? = some t → At H v t p w → At H (.ref a) (.dic ks ts) (i :: p) w
  | obj {a dx C : Addr} {fs : List (Str × V)} {ns : List Str} {ts : List T} {i : Nat} {v w : V} {t : T} {p : Pth} : H a = some (.ins C dx fs) → (fs.map (·.2))[i]? = some v → ts[i]? = some t → At H v t p w → At H (.ref a) (.obj C ns ts) (i :: p) w
theorem Ow.at_ : ∀ {p : Pth} {t u : T} {v : V} {L : List Addr}, Ow K I H v t L → t.at_ p = some u → ∃ w, At H v t p w ∧ ∃ L1 Li L2, L = L1 ++ (Li ++ L2) ∧ Ow K I H w u Li ∧
    ∀ (I' H' : Hp) (u' : T) (Li' : List Addr), Ex I I' → (∀ a, a ∈ L1 ++ L2 → H' a = H a) → Ow K I' H' w u' Li' → Ow K I' H' v (t.put p u') (L1 ++ (Li' ++ L2))
  | [], t, u, v, L, h, e => by
    cases e
    exact ⟨v, .nil, [], L, [], by simp, h, fun I' H' u' Li' _ _ q => by simpa [T.put] using q⟩
  | i :: p, t, u, v, L, h, e => by
    rw [T.at_] at e
    cases ek : t.kids[i]? with
    | none => simp [ek] at e
    | some k =>
      simp [ek] at e
      have hp : ∀ u', t.put (i :: p) u' = t.setKid i (k.put p u') := fun u' => by rw [T.put, ek]
      cases h with
      | em => simp [T.kids] at ek
      | d => simp [T.kids] at ek
      | lst => simp [T.kids] at ek
      | @dic a kvs ks ts L h1 h2 h3 =>
        have ek' : ts[i]? = some k := ek
        obtain ⟨v1, g1, L1, Li, L2, rfl, g2, g3⟩ := h3.get ek'
        obtain ⟨w, g4, M1, Mi, M2, rfl, g5, g6⟩ := Ow.at_ (p := p) g2 e
        refine ⟨w, .dic h1 g1 ek' g4, a :: (L1 ++ M1), Mi, M2 ++ L2, by simp, g5, fun I' H' u' Li' ei kp q => ?_⟩
        rw [hp]
        have g7 := g6 I' H' u' Li' ei (fun b hb => kp b (by rcases List.mem_append.mp hb with hb | hb <;> simp [hb])) q
        have g8 := g3 I' H' (k.put p u') _ ei (fun b hb => kp b (by rcases List.mem_append.mp hb with hb | hb <;> simp [hb])) g7
        have := Ow.dic (ks := ks) ((kp a (by simp)).trans h1) h2 g8
        simpa [T.setKid] using this
      | @obj a dx fs C ns ts L h0 h1 h2 h3 h4 =>
        have ek' : ts[i]? = some k := ek
        obtain ⟨v1, g1, L1, Li, L2, rfl, g2, g3⟩ := h4.get ek'
        obtain ⟨w, g4, M1, Mi, M2, rfl, g5, g6⟩ := Ow.at_ (p := p) g2 e
        refine ⟨w, .obj h1 g1 ek' g4, a :: dx :: (L1 ++ M1), Mi, M2 ++ L2, by simp, g5, fun I' H' u' Li' ei kp q => ?_⟩
        rw [hp]
        have g7 := g6 I' H' u' Li' ei (fun b hb => kp b (by rcases List.mem_append.mp hb with hb | hb <;> simp [hb])) q
        have g8 := g3 I' H' (k.put p u') _ ei (fun b hb => kp b (by rcases List.mem_append.mp hb with hb | hb <;> simp [hb])) g7
        have := Ow.obj h0 ((kp a (by simp)).trans h1) ((kp dx (by simp)).trans h2) h3 g8
        simpa [T.setKid] using this
/-- what is at a place: slot, path -/
def gAt (γ : List T) (i : Nat) (p : Pth) : Option T := match γ[i]? with
  | some t => t.at_ p
  | none => none
def gPut (γ : List T) (i : Nat) (p : Pth) (u : T) : List T := match γ[i]? with
  | some t => γ.set i (t.put p u)
  | none => γ
theorem set_same {α : Type} : ∀ {l : List α} {i : Nat} {x : α}, l[i]? = some x → l.set i x = l := fun h => set_self h
/-- the tree at a place, its step -/
theorem WS.place {i : Nat} {p : Pth} {u : T} (w : WS K γ σ I H L) (h : gAt γ i p = some u) (hu : u ≠ .em) : ∃ v0 v t, σ[i]? = some (some v0) ∧ γ[i]? = some t ∧ At H v0 t p v ∧ ∃ Li, Ow K I H v u Li ∧ Li.Nodup ∧ (∀ a ∈ Li, I a = none) ∧
    ∀ (I' H' : Hp) (u' : T) (Li' : List Addr), Step I H Li I' H' Li' → Li'.Nodup → (∀ a ∈ Li', I' a = none) → Ex I' H' → Ow K I' H' v u' Li' → ∃ L', WS K (gPut γ i p u') σ I' H' L' ∧ Step I H L I' H' L' := by
  unfold gAt at h
  cases e : γ[i]? with
  | none => simp [e] at h
  | some t =>
    simp [e] at h
    have ht : t ≠ .em := fun z => by
      subst z
      cases p with
      | nil => exact hu (by simpa [T.at_] using h.symm)
      | cons j p => simp [T.at_, T.kids] at h
    obtain ⟨v0, h1, L1, Lj, L2, rfl, h2, h3⟩ := w.env.get e ht
    obtain ⟨v, h4, M1, Li, M2, rfl, h5, h6⟩ := h2.at_ h
    have nd := w.nd
    have nd2 := List.nodup_append.mp nd
    have nd3 := List.nodup_append.mp nd2.2.1
    have nd4 := List.nodup_append.mp nd3.1
    have nd5 := List.nodup_append.mp nd4.2.1
    refine ⟨v0, v, t, h1, rfl, h4, Li, h5, nd5.1, fun a ha => w.fr a (by simp [ha]), fun I' H' u' Li' st nd' fr' sub' q => ?_⟩
    have out : ∀ a, a ∈ L1 ++ (M1 ++ (M2 ++ L2)) → a ∉ Li := fun a ha z => by
      simp at ha
      rcases ha with ha | ha | ha | ha
      · exact nd2.2.2 a ha a (by simp [z]) rfl
      · exact nd4.2.2 a ha a (by simp [z]) rfl
      · exact nd5.2.2 a z a ha rfl
      · exact nd3.2.2 a (by simp [z]) a ha rfl
    have lv : ∀ a, a ∈ L1 ++ (M1 ++ (M2 ++ L2)) → H a ≠ none := fun a ha => w.live a (by
      simp at ha ⊢
      rcases ha with ha | ha | ha | ha
      · exact .inl ha
      · exact .inr (.inl ha)
      · exact .inr (.inr (.inr (.inl ha)))
      · exact .inr (.inr (.inr (.inr ha))))
    have kp : ∀ a, a ∈ L1 ++ (M1 ++ (M2 ++ L2)) → H' a = H a := fun a ha => by
      cases e : H a with
      | none => exact absurd e (lv a ha)
      | some o => exact st.keep a o e (out a ha)
    have apart : ∀ a ∈ Li', a ∉ L1 ++ (M1 ++ (M2 ++ L2)) := fun a ha z => (st.l a ha).elim (out a z) (lv a z)
    have g1 := h6 I' H' u' Li' st.i (fun a ha => kp a (by simp at ha ⊢; rcases ha with ha | ha; exact .inr (.inl ha); exact .inr (.inr (.inl ha)))) q
    have g2 := h3 I' H' (t.put p u') v0 _ st.i (fun a ha => kp a (by simp at ha ⊢; rcases ha with ha | ha; exact .inl ha; exact .inr (.inr (.inr ha)))) g1
    have eσ : σ.set i (some v0) = σ := set_same h1
    rw [eσ] at g2
    refine ⟨L1 ++ ((M1 ++ (Li' ++ M2)) ++ L2), ⟨by unfold gPut; rw [e]; exact g2, ?_, fun a ha => ?_, sub'⟩, ⟨st.i, fun a o ea hl => st.keep a o ea fun z => hl (by simp [z]), fun a ha => ?_, fun a o ea => ?_⟩⟩
    · have pm : (L1 ++ ((M1 ++ (Li' ++ M2)) ++ L2)).Perm (Li' ++ (L1 ++ (M1 ++ (M2 ++ L2)))) := by
        have q1 : L1 ++ ((M1 ++ (Li' ++ M2)) ++ L2) = (L1 ++ M1) ++ (Li' ++ (M2 ++ L2)) := by simp
        have q2 : Li' ++ (L1 ++ (M1 ++ (M2 ++ L2))) = Li' ++ ((L1 ++ M1) ++ (M2 ++ L2)) := by simp
        rw [q1, q2]
        exact List.perm_append_comm_assoc _ _ _
      have pm0 : (L1 ++ ((M1 ++ (Li ++ M2)) ++ L2)).Perm (Li ++ (L1 ++ (M1 ++ (M2 ++ L2)))) := by
        have q1 : L1 ++ ((M1 ++ (Li ++ M2)) ++ L2) = (L1 ++ M1) ++ (Li ++ (M2 ++ L2)) := by simp
        have q2 : Li ++ (L1 ++ (M1 ++ (M2 ++ L2))) = Li ++ ((L1 ++ M1) ++ (M2 ++ L2)) := by simp
        rw [q1, q2]
        exact List.perm_append_comm_assoc _ _ _
      have ndr := (List.nodup_append.mp (pm0.nodup_iff.mp nd)).2.1
      exact pm.nodup_iff.mpr (List.nodup_append.mpr ⟨nd', ndr, fun a ha b hb e => apart a ha (e ▸ hb)⟩)
    · by_cases hL : a ∈ Li'
      · exact fr' a hL
      · have ha' : a ∈ L1 ++ (M1 ++ (M2 ++ L2)) := by
          simp at ha ⊢
          rcases ha with ha | ha | ha | ha | ha
          · exact .inl ha
          · exact .inr (.inl ha)
          · exact absurd ha hL
          · exact .inr (.inr (.inl ha))
          · exact .inr (.inr (.inr ha))
        cases e : I' a with
        | none => rfl
        | some o =>
          rcases st.n a o e with q | q | q
          · rw [w.fr a (by
              simp at ha' ⊢
              rcases ha' with ha | ha | ha | ha
              · exact .inl ha
              · exact .inr (.inl ha)
              · exact .inr (.inr (.inr (.inl ha)))
              · exact .inr (.inr (.inr (.inr ha))))] at q; cases q
          · exact absurd q (out a ha')
          · exact absurd q (lv a ha')
    · simp at ha
      rcases ha with ha | ha | ha | ha | ha
      · exact .inl (by simp [ha])
      · exact .inl (by simp [ha])
      · exact (st.l a ha).elim (fun z => .inl (by simp [z])) .inr
      · exact .inl (by simp [ha])
      · exact .inl (by simp [ha])
    · rcases st.n a o ea with q | q | q
      · exact .inl q
      · exact .inr (.inl (by simp [q]))
      · exact .inr (.inr q)
end
end FD
namespace FD
open PySem PySem.Spec PyProof.Rows L2
/-- read at the top through the heap -/
inductive Tp (K : PySem.W.Frag) (I H : Hp) : V → D → Prop
  | is {v : V} {x : D} : Is K I v x → Tp K I H v x
  | lst {a : Addr} {xs : List V} {ds : List D} : H a = some (.lst xs) → IsA K I xs ds → Tp K I H (.ref a) (.lst ds)
  | dic {a : Addr} {kvs : List (Key × V)} {ks : List Key} {ds : List D} : H a = some (.dK kvs) → ks = kvs.map (·.1) → IsA K I (kvs.map (·.2)) ds → Tp K I H (.ref a) (.dic ks ds)
section
variable {K : PySem.W.Frag} {I I' H H' : Hp} {v : V} {x : D}
theorem Tp.new (n : New I H I' H') (h : Tp K I H v x) : Tp K I' H' v x := by
  cases h with
  | is h => exact .is (h.mono n.i)
  | lst h1 h2 => exact .lst (n.h _ _ h1) (h2.mono n.i)
  | dic h1 h2 h3 => exact .dic (n.h _ _ h1) h2 (h3.mono n.i)
theorem Tp.l {ds : List D} (s : Ex I H) (h : Tp K I H v (.lst ds)) : ∃ a xs, v = .ref a ∧ SqL K H a xs ∧ IsA K I xs ds := by
  cases h with
  | is h => cases h with
    | lst h1 h2 => exact ⟨_, _, rfl, s.l h1, h2⟩
  | lst h1 h2 => exact ⟨_, _, rfl, sq_of h1, h2⟩
theorem Tp.t {ds : List D} (s : Ex I H) (h : Tp K I H v (.tup ds)) : ∃ a xs, v = .ref a ∧ SqT K H a xs ∧ IsA K I xs ds := by
  cases h with
  | is h => cases h with
    | tup h1 h2 => exact ⟨_, _, rfl, s.t h1, h2⟩
theorem Tp.k {ks : List Key} {ds : List D} (s : Ex I H) (h : Tp K I H v (.dic ks ds)) : ∃ a kvs, v = .ref a ∧ Rd H a (.dK kvs) ∧ ks = kvs.map (·.1) ∧ IsA K I (kvs.map (·.2)) ds := by
  cases h with
  | is h => cases h with
    | dic h1 h2 h3 => exact ⟨_, _, rfl, s.rd h1, h2, h3⟩
  | dic h1 h2 h3 => exact ⟨_, _, rfl, .inl h1, h2, h3⟩
theorem Tp.n (h : Tp K I H v .non) : v = .non := by
  cases h with
  | is h => cases h; rfl
theorem Tp.b {b : Bool} (h : Tp K I H v (.bl b)) : v = .bl b := by
  cases h with
  | is h => cases h; rfl
theorem Tp.n_ {i : Int} (h : Tp K I H v (.int i)) : v = .int i := by
  cases h with
  | is h => cases h; rfl
theorem Tp.s {i : Str} (h : Tp K I H v (.str i)) : v = .str i := by
  cases h with
  | is h => cases h; rfl
/-- the top frozen for a while -/
theorem Tp.frz (s : Ex I H) (h : Tp K I H v x) : ∃ I', Ex I I' ∧ Ex I' H ∧ Is K I' v x := by
  have key : ∀ {a : Addr} {o : HO}, H a = some o → ∃ I', Ex I I' ∧ Ex I' H ∧ I' a = some o := fun {a o} ha => by
    cases e : I a with
    | some u =>
      have := s a u e
      rw [ha] at this
      cases this
      exact ⟨I, Ex.refl I, s, e⟩
    | none => exact ⟨upd I a o, Ex.new e, fun b u q => by
        by_cases hb : b = a
        · subst hb; rw [upd_same] at q; cases q; exact ha
        · rw [upd_ne hb] at q; exact s b u q, upd_same⟩
  cases h with
  | is h => exact ⟨I, Ex.refl I, s, h⟩
  | lst h1 h2 =>
    obtain ⟨I', e1, e2, e3⟩ := key h1
    exact ⟨I', e1, e2, .lst (sq_of e3) (h2.mono e1)⟩
  | dic h1 h2 h3 =>
    obtain ⟨I', e1, e2, e3⟩ := key h1
    exact ⟨I', e1, e2, .dic (.inl e3) h2 (h3.mono e1)⟩
/-- operations on values read at the top -/
def OpT (K : PySem.W.Frag) (r : R2) (x y z : D) : Prop := ∀ I H v w, Ex I H → Tp K I H v x → Tp K I H w y → PureR K I H (r v w) z
def CallT (K : PySem.W.Frag) (r : V → Hp → VK → Prop) (x z : D) : Prop := ∀ I H v, Ex I H → Tp K I H v x → PureR K I H (r v) z
theorem Tp.mono (e : Ex I I') (h : Tp K I H v x) : Tp K I' H v x := by
  cases h with
  | is h => exact .is (h.mono e)
  | lst h1 h2 => exact .lst h1 (h2.mono e)
  | dic h1 h2 h3 => exact .dic h1 h2 (h3.mono e)
theorem OpD.t {r : R2} {y z : D} (h : OpD K r x y z) (hz : z.scalar = true) : OpT K r x y z := fun I H v w s hv hw Q q => by
  obtain ⟨I1, e1, s1, hv1⟩ := hv.frz s
  obtain ⟨I2, e2, s2, hw2⟩ := (hw.mono e1).frz s1
  exact h I2 H v w s2 (hv1.mono e2) hw2 Q fun u I' H' n s' hu => q u I H' ⟨Ex.refl I, n.h, fun _ _ h => .inl h⟩ (s.trans n.h) (hu.scalar hz)
theorem UnD.t {r : V → Hp → VK → Prop} {z : D} (h : UnD K r x z) (hz : z.scalar = true) : CallT K r x z := fun I H v s hv Q q => by
  obtain ⟨I1, e1, s1, hv1⟩ := hv.frz s
  exact h I1 H v s1 hv1 Q fun u I' H' n s' hu => q u I H' ⟨Ex.refl I, n.h, fun _ _ h => .inl h⟩ (s.trans n.h) (hu.scalar hz)
theorem CallD.t {r : List V → Hp → VK → Prop} {z : D} (h : CallD K r [x] z) (hz : z.scalar = true) : CallT K (fun v => r [v]) x z := fun I H v s hv Q q => by
  obtain ⟨I1, e1, s1, hv1⟩ := hv.frz s
  exact h I1 H [v] s1 (.cons hv1 .nil) Q fun u I' H' n s' hu => q u I H' ⟨Ex.refl I, n.h, fun _ _ h => .inl h⟩ (s.trans n.h) (hu.scalar hz)
end
def Pu (K : PySem.W.Frag) (te : TE) (f : List T → Option D) : Prop := ∀ γ x, f γ = some x → ∀ σ I H L, WS K γ σ I H L → ∀ Q : VK, (∀ v I' H', New I H I' H' → Ex I' H' → Is K I' v x → Q v H') → te σ H Q
def Cu (K : PySem.W.Frag) (te : TE) (f : List T → Option D) : Prop := ∀ γ x, f γ = some x → ∀ σ I H L, WS K γ σ I H L → ∀ Q : VK, (∀ v I' H', New I H I' H' → Ex I' H' → Tp K I' H' v x → Q v H') → te σ H Q
def PuT (K : PySem.W.Frag) (tt : TT) (f : List T → Option Bool) : Prop := ∀ γ b, f γ = some b → ∀ σ I H L, WS K γ σ I H L → ∀ Q : Bool → Hp → Prop, (∀ I' H', New I H I' H' → Ex I' H' → Q b H') → tt σ H Q
def PuA (K : PySem.W.Frag) (ta : TA) (f : List T → Option (List D)) : Prop := ∀ γ xs, f γ = some xs → ∀ σ I H L, WS K γ σ I H L → ∀ Q : List V → Hp → Prop, (∀ vs I' H', New I H I' H' → Ex I' H' → IsA K I' vs xs → Q vs H') → ta σ H Q
def PuO (K : PySem.W.Frag) (to : TO) (f : List T → Option (Option Int)) : Prop := ∀ γ o, f γ = some o → ∀ σ I H L, WS K γ σ I H L → ∀ Q : Option Int → Hp → Prop, (∀ I' H', New I H I' H' → Ex I' H' → Q o H') → to σ H Q
/-- a place: slot, path -/
def Lo (K : PySem.W.Frag) (te : TE) (f : List T → Option (Nat × Pth)) : Prop := ∀ γ i p, f γ = some (i, p) → ∀ σ I H L, WS K γ σ I H L → ∀ Q : VK, (∀ v v0 t, σ[i]? = some (some v0) → γ[i]? = some t → At H v0 t p v → Q v H) → te σ H Q
section
variable {K : PySem.W.Frag} {ta tb tc te to tl th : TE} {t u : TT} {f g h : List T → Option D} {p q : List T → Option Bool} {r : R2} {I I' H H' : Hp} {γ : List T} {σ : Sg} {L : List Addr}
theorem Pu.c (h : Pu K te f) : Cu K te f := fun γ x e σ I H L w Q k => h γ x e σ I H L w Q fun v I' H' n s hv => k v I' H' n s (.is hv)
def pVar (i : Nat) : List T → Option D := fun γ => match γ[i]? with
  | some (.d x) => some x
  | _ => none
theorem pu_var (i : Nat) : Pu K (tVar i) (pVar i) := fun γ x e σ I H L w Q k => by
  unfold pVar at e
  split at e
  · rename_i y hy
    cases e
    obtain ⟨v, h1, h2⟩ := w.env.getD hy
    exact ⟨v, h1, k v I H (New.refl I H) w.sub h2⟩
  · cases e
def allD : List T → Option (List D)
  | [] => some []
  | .d x :: ts => (allD ts).map (x :: ·)
  | _ :: _ => none
theorem isA_allD : ∀ {ts : List T} {vs : List V} {L : List Addr} {xs : List D}, OwA K I H vs ts L → allD ts = some xs → IsA K I vs xs
  | [], _, _, _, h, e => by
    simp [allD] at e
    subst e
    cases h
    exact .nil
  | t :: ts, _, _, _, h, e => by
    cases t with
    | d x =>
      rw [allD] at e
      cases e2 : allD ts with
      | none => simp [e2] at e
      | some xs =>
        simp [e2] at e
        subst e
        cases h with
        | cons h1 h2 =>
          cases h1 with
          | d h1 => exact .cons h1 (isA_allD h2 e2)
    | em => simp [allD] at e
    | lst => simp [allD] at e
    | dic => simp [allD] at e
    | obj => simp [allD] at e
theorem allD_map (xs : List D) : allD (xs.map .d) = some xs := by
  induction xs with
  | nil => rfl
  | cons x xs ih => simp [allD, ih]
def T.top : T → Option D
  | .d x => some x
  | .lst ds => some (.lst ds)
  | .dic ks ts => (allD ts).map (.dic ks)
  | _ => none
theorem Ow.top {t : T} {v : V} {x : D} {L : List Addr} (h : Ow K I H v t L) (e : t.top = some x) : Tp K I H v x := by
  cases h with
  | em => simp [T.top] at e
  | d h => simp [T.top] at e; subst e; exact .is h
  | lst h1 h2 => simp [T.top] at e; subst e; exact .lst h1 h2
  | @dic a kvs ks ts L h1 h2 h3 =>
    simp only [T.top] at e
    cases e2 : allD ts with
    | none => simp [e2] at e
    | some xs =>
      simp [e2] at e
      subst e
      exact .dic h1 h2 (isA_allD h3 e2)
  | obj => simp [T.top] at e
def cVar (i : Nat) : List T → Option D := fun γ => (γ[i]?).bind T.top
theorem cu_var (i : Nat) : Cu K (tVar i) (cVar i) := fun γ x e σ I H L w Q k => by
  unfold cVar at e
  cases e1 : γ[i]? with
  | none => simp [e1] at e
  | some t =>
    simp [e1] at e
    have ht : t ≠ .em := fun z => by subst z; simp [T.top] at e
    obtain ⟨v, h1, L1, Li, L2, rfl, h2, _⟩ := w.env.get e1 ht
    exact ⟨v, h1, k v I H (New.refl I H) w.sub (h2.top e)⟩
def pC (x : D) : List T → Option D := fun _ => some x
theorem pu_c {v : V} {x : D} (h : ∀ I, Is K I v x) : Pu K (tC v) (pC x) := fun γ y e σ I H L w Q k => by
  cases e
  exact k v I H (New.refl I H) w.sub (h I)
theorem pu_int {i : Int} : Pu K (tC (.int i)) (pC (.int i)) := pu_c fun _ => .int i
theorem pu_str {s : Str} : Pu K (tC (.str s)) (pC (.str s)) := pu_c fun _ => .str s
theorem pu_bl {b : Bool} : Pu K (tC (.bl b)) (pC (.bl b)) := pu_c fun _ => .bl b
theorem pu_non : Pu K (tC .non) (pC .non) := pu_c fun _ => .non
theorem pu_raw {v : V} : Pu K (tC v) (pC (.raw v)) := pu_c fun _ => .raw v
def pOp (o : D → D → Option D) (f g : List T → Option D) : List T → Option D := fun γ => (f γ).bind fun x => (g γ).bind fun y => o x y
theorem pu_op {o : D → D → Option D} (hf : Cu K ta f) (hg : Cu K tb g) (ho : ∀ x y z, o x y = some z → OpT K r x y z) : Pu K (tOp r ta tb) (pOp o f g) := fun γ z e σ I H L w Q k => by
  unfold pOp at e
  obtain ⟨x, e1, e⟩ := Option.bind_eq_some_iff.mp e
  obtain ⟨y, e2, e3⟩ := Option.bind_eq_some_iff.mp e
  exact hf γ x e1 σ I H L w _ fun v I1 H1 n1 s1 hv => hg γ y e2 σ I1 H1 L (w.new n1 s1) _ fun u I2 H2 n2 s2 hu =>
    ho x y z e3 I2 H2 v u s2 (hv.new n2) hu Q fun o I3 H3 n3 s3 ho => k o I3 H3 ((n1.trans n2).trans n3) s3 ho
def pUn (o : D → Option D) (f : List T → Option D) : List T → Option D := fun γ => (f γ).bind o
/-- a built-in function of one argument -/
theorem pu_call1 {o : D → Option D} {r : List V → Hp → VK → Prop} (hf : Cu K ta f) (ho : ∀ x z, o x = some z → CallT K (fun v => r [v]) x z) : Pu K (tCB r (tCons ta tNil)) (pUn o f) := fun γ z e σ I H L w Q k => by
  unfold pUn at e
  obtain ⟨x, e1, e3⟩ := Option.bind_eq_some_iff.mp e
  exact hf γ x e1 σ I H L w _ fun v I1 H1 n1 s1 hv => ho x z e3 I1 H1 v s1 hv Q fun o I3 H3 n3 s3 ho => k o I3 H3 (n1.trans n3) s3 ho
/-- of two -/
theorem pu_call2 {o : D → D → Option D} {r : List V → Hp → VK → Prop} (hf : Cu K ta f) (hg : Cu K tb g) (ho : ∀ x y z, o x y = some z → OpT K (fun v w => r [v, w]) x y z) : Pu K (tCB r (tCons ta (tCons tb tNil))) (pOp o f g) := fun γ z e σ I H L w Q k => by
  unfold pOp at e
  obtain ⟨x, e1, e⟩ := Option.bind_eq_some_iff.mp e
  obtain ⟨y, e2, e3⟩ := Option.bind_eq_some_iff.mp e
  exact hf γ x e1 σ I H L w _ fun v I1 H1 n1 s1 hv => hg γ y e2 σ I1 H1 L (w.new n1 s1) _ fun u I2 H2 n2 s2 hu =>
    ho x y z e3 I2 H2 v u s2 (hv.new n2) hu Q fun o I3 H3 n3 s3 ho => k o I3 H3 ((n1.trans n2).trans n3) s3 ho
def pNil : List T → Option (List D) := fun _ => some []
def pCons (f : List T → Option D) (g : List T → Option (List D)) : List T → Option (List D) := fun γ => (f γ).bind fun x => (g γ).map fun xs => x :: xs
theorem pa_nil_ : PuA K tNil pNil := fun γ xs e σ I H L w Q k => by
  cases e
  exact k [] I H (New.refl I H) w.sub .nil
theorem pa_cons_ {tr : TA} {g : List T → Option (List D)} (hf : Pu K ta f) (hg : PuA K tr g) : PuA K (tCons ta tr) (pCons f g) := fun γ zs e σ I H L w Q k => by
  unfold pCons at e
  obtain ⟨x, e1, e⟩ := Option.bind_eq_some_iff.mp e
  cases e2 : g γ with
  | none => simp [e2] at e
  | some xs =>
    simp [e2] at e
    subst e
    exact hf γ x e1 σ I H L w _ fun v I1 H1 n1 s1 hv => hg γ xs e2 σ I1 H1 L (w.new n1 s1) _ fun vs I2 H2 n2 s2 hvs => k (v :: vs) I2 H2 (n1.trans n2) s2 (.cons (hv.mono n2.i) hvs)
/-- a built-in function of data -/
def pCB (o : List D → Option D) (g : List T → Option (List D)) : List T → Option D := fun γ => (g γ).bind o
def pTup (g : List T → Option (List D)) : List T → Option D := fun γ => (g γ).bind fun xs => if xs.length ≤ sizeLine then some (.tup xs) else none
theorem pu_tup {tr : TA} {g : List T → Option (List D)} (hg : PuA K tr g) : Pu K (tTup tr) (pTup g) := fun γ z e σ I H L w Q k => by
  unfold pTup at e
  obtain ⟨xs, e1, e2⟩ := Option.bind_eq_some_iff.mp e
  split at e2
  · rename_i hl
    cases e2
    refine hg γ xs e1 σ I H L w _ fun vs I1 H1 n1 s1 hv => ⟨by rw [hv.length]; exact hl, fun p hp => ?_⟩
    obtain ⟨n, s⟩ := alloc (o := .tup vs) s1 hp
    exact k _ _ _ (n1.trans n) s (.tup (st_of upd_same) (hv.mono n.i))
  · cases e2
def pLst (g : List T → Option (List D)) : List T → Option D := fun γ => (g γ).bind fun xs => if xs.length ≤ sizeLine then some (.lst xs) else none
theorem pu_lst {tr : TA} {g : List T → Option (List D)} (hg : PuA K tr g) : Pu K (tLst tr) (pLst g) := fun γ z e σ I H L w Q k => by
  unfold pLst at e
  obtain ⟨xs, e1, e2⟩ := Option.bind_eq_some_iff.mp e
  split at e2
  · rename_i hl
    cases e2
    refine hg γ xs e1 σ I H L w _ fun vs I1 H1 n1 s1 hv => ⟨by rw [hv.length]; exact hl, fun p hp => ?_⟩
    obtain ⟨n, s⟩ := alloc (o := .lst vs) s1 hp
    exact k _ _ _ (n1.trans n) s (.lst (sq_of upd_same) (hv.mono n.i))
  · cases e2
def pTest (f : List T → Option D) : List T → Option Bool := fun γ => (f γ).bind fun x => match x with
  | .bl b => some b
  | _ => none
theorem pt_of {f : List T → Option D} {γ : List T} {b : Bool} (e : pTest f γ = some b) : f γ = some (.bl b) := by
  unfold pTest at e
  obtain ⟨x, e1, e2⟩ := Option.bind_eq_some_iff.mp e
  cases x <;> simp at e2
  subst e2
  exact e1
theorem put_test (hf : Pu K te f) : PuT K (tTest te) (pTest f) := fun γ b e σ I H L w Q k => hf γ _ (pt_of e) σ I H L w _ fun v I' H' n s hv => by
  cases hv
  exact ⟨b, rfl, k I' H' n s⟩
theorem put_b (hf : Pu K te f) : PuT K (tB te) (pTest f) := fun γ b e σ I H L w Q k => hf γ _ (pt_of e) σ I H L w _ fun v I' H' n s hv => by
  cases hv
  exact ⟨b, rfl, k I' H' n s⟩
def bNot (p : List T → Option Bool) : List T → Option Bool := fun γ => (p γ).map (!·)
theorem put_not (hp : PuT K t p) : PuT K (tNot t) (bNot p) := fun γ b e σ I H L w Q k => by
  unfold bNot at e
  cases e1 : p γ with
  | none => simp [e1] at e
  | some c =>
    rw [e1] at e
    cases e
    exact hp γ c e1 σ I H L w _ fun I' H' n s => k I' H' n s
def bAnd (p q : List T → Option Bool) : List T → Option Bool := fun γ => (p γ).bind fun a => if a = true then q γ else some false
def bOr (p q : List T → Option Bool) : List T → Option Bool := fun γ => (p γ).bind fun a => if a = true then some true else q γ
theorem put_or (hp : PuT K t p) (hq : PuT K u q) : PuT K (tOr t u) (bOr p q) := fun γ b e σ I H L w Q k => by
  unfold bOr at e
  obtain ⟨a, e1, e2⟩ := Option.bind_eq_some_iff.mp e
  refine hp γ a e1 σ I H L w _ fun I1 H1 n1 s1 => ?_
  cases a with
  | false =>
    show u σ H1 Q
    exact hq γ b (by simpa using e2) σ I1 H1 L (w.new n1 s1) Q fun I2 H2 n2 s2 => k I2 H2 (n1.trans n2) s2
  | true =>
    show Q true H1
    simp at e2
    subst e2
    exact k I1 H1 n1 s1
def bYes : List T → Option Bool := fun _ => some true
theorem put_yes : PuT K tYes bYes := fun γ b e σ I H L w Q k => by
  cases e
  exact k I H (New.refl I H) w.sub
/-- truth of a number, a text, a list, None -/
def bTru (f : List T → Option D) : List T → Option Bool := fun γ => (f γ).bind fun x => match x with
  | .bl b => some b
  | .int i => some (decide (i ≠ 0))
  | .str s => some (decide (s.length ≠ 0))
  | .lst ds => some (decide (ds.length ≠ 0))
  | .tup ds => some (decide (ds.length ≠ 0))
  | .non => some false
  | _ => none
def pAnd (f g : List T → Option D) : List T → Option D := fun γ => (f γ).bind fun x => match x with
  | .bl true => (g γ).bind fun y => match y with
    | .bl b => some (.bl b)
    | _ => none
  | .bl false => some (.bl false)
  | _ => none
theorem pu_and (hf : Pu K ta f) (hg : Pu K tb g) : Pu K (tAndV ta tb) (pAnd f g) := fun γ z e σ I H L w Q k => by
  unfold pAnd at e
  obtain ⟨x, e1, e2⟩ := Option.bind_eq_some_iff.mp e
  refine hf γ x e1 σ I H L w _ fun v I1 H1 n1 s1 hv => ?_
  cases x with
  | bl a =>
    cases hv
    refine ⟨a, rfl, ?_⟩
    cases a with
    | true =>
      show tb σ H1 Q
      simp only at e2
      obtain ⟨y, e3, e4⟩ := Option.bind_eq_some_iff.mp e2
      cases y <;> simp at e4
      subst e4
      exact hg γ _ e3 σ I1 H1 L (w.new n1 s1) Q fun v I2 H2 n2 s2 hv => k v I2 H2 (n1.trans n2) s2 hv
    | false =>
      show Q (.bl false) H1
      simp at e2
      subst e2
      exact k _ I1 H1 n1 s1 (.bl _)
  | _ => simp at e2
def pOr (f g : List T → Option D) : List T → Option D := fun γ => (f γ).bind fun x => match x with
  | .bl false => (g γ).bind fun y => match y with
    | .bl b => some (.bl b)
    | _ => none
  | .bl true => some (.bl true)
  | _ => none
theorem pu_or (hf : Pu K ta f) (hg : Pu K tb g) : Pu K (tOrV ta tb) (pOr f g) := fun γ z e σ I H L w Q k => by
  unfold pOr at e
  obtain ⟨x, e1, e2⟩ := Option.bind_eq_some_iff.mp e
  refine hf γ x e1 σ I H L w _ fun v I1 H1 n1 s1 hv => ?_
  cases x with
  | bl a =>
    cases hv
    refine ⟨a, rfl, ?_⟩
    cases a with
    | false =>
      show tb σ H1 Q
      simp only at e2
      obtain ⟨y, e3, e4⟩ := Option.bind_eq_some_iff.mp e2
      cases y <;> simp at e4
      subst e4
      exact hg γ _ e3 σ I1 H1 L (w.new n1 s1) Q fun v I2 H2 n2 s2 hv => k v I2 H2 (n1.trans n2) s2 hv
    | true =>
      show Q (.bl true) H1
      simp at e2
      subst e2
      exact k _ I1 H1 n1 s1 (.bl _)
  | _ => simp at e2
def pNot (f : List T → Option D) : List T → Option D := fun γ => (f γ).bind fun x => match x with
  | .bl b => some (.bl (!b))
  | _ => none
def pIf (p : List T → Option Bool) (f g : List T → Option D) : List T → Option D := fun γ => (p γ).bind fun a => if a = true then f γ else g γ
theorem pu_if (hp : PuT K t p) (hf : Pu K ta f) (hg : Pu K tb g) : Pu K (tIf t ta tb) (pIf p f g) := fun γ z e σ I H L w Q k => by
  unfold pIf at e
  obtain ⟨a, e1, e2⟩ := Option.bind_eq_some_iff.mp e
  refine hp γ a e1 σ I H L w _ fun I1 H1 n1 s1 => ?_
  cases a with
  | true =>
    show ta σ H1 Q
    exact hf γ z (by simpa using e2) σ I1 H1 L (w.new n1 s1) Q fun v I2 H2 n2 s2 hv => k v I2 H2 (n1.trans n2) s2 hv
  | false =>
    show tb σ H1 Q
    exact hg γ z (by simpa using e2) σ I1 H1 L (w.new n1 s1) Q fun v I2 H2 n2 s2 hv => k v I2 H2 (n1.trans n2) s2 hv
/-- a < b < c -/
def pChain (o o' : D → D → Option D) (f g h : List T → Option D) : List T → Option D := fun γ => (f γ).bind fun x => (g γ).bind fun y => (o x y).bind fun z => match z with
  | .bl true => (h γ).bind fun w => (o' y w).bind fun r => match r with
    | .bl b => some (.bl b)
    | _ => none
  | .bl false => some (.bl false)
  | _ => none
theorem pu_chain {o o' : D → D → Option D} {r' : R2} (hf : Cu K ta f) (hg : Cu K tb g) (hh : Cu K tc h) (ho : ∀ x y z, o x y = some z → OpT K r x y z) (ho' : ∀ x y z, o' x y = some z → OpT K r' x y z) : Pu K (tChain r r' ta tb tc) (pChain o o' f g h) := fun γ z e σ I H L w Q k => by
  unfold pChain at e
  obtain ⟨x, e1, e⟩ := Option.bind_eq_some_iff.mp e
  obtain ⟨y, e2, e⟩ := Option.bind_eq_some_iff.mp e
  obtain ⟨z1, e3, e4⟩ := Option.bind_eq_some_iff.mp e
  refine hf γ x e1 σ I H L w _ fun v I1 H1 n1 s1 hv => hg γ y e2 σ I1 H1 L (w.new n1 s1) _ fun u I2 H2 n2 s2 hu => ho x y z1 e3 I2 H2 v u s2 (hv.new n2) hu _ fun o1 I3 H3 n3 s3 ho1 => ?_
  have n13 := (n1.trans n2).trans n3
  cases z1 with
  | bl a =>
    cases ho1
    refine ⟨a, rfl, ?_⟩
    cases a with
    | false =>
      show Q (.bl false) H3
      simp at e4
      subst e4
      exact k _ I3 H3 n13 s3 (.bl _)
    | true =>
      show tc σ H3 _
      simp only at e4
      obtain ⟨w1, e5, e6⟩ := Option.bind_eq_some_iff.mp e4
      obtain ⟨r1, e7, e8⟩ := Option.bind_eq_some_iff.mp e6
      cases r1 <;> simp at e8
      subst e8
      exact hh γ w1 e5 σ I3 H3 L (w.new n13 s3) _ fun v2 I4 H4 n4 s4 hv2 => ho' y w1 _ e7 I4 H4 u v2 s4 ((hu.new n3).new n4) hv2 Q fun o2 I5 H5 n5 s5 ho2 => k o2 I5 H5 ((n13.trans n4).trans n5) s5 ho2
  | _ => simp at e4
def oNone : List T → Option (Option Int) := fun _ => some none
def oSome (f : List T → Option D) : List T → Option (Option Int) := fun γ => (f γ).bind fun x => match x with
  | .int i => some (some i)
  | _ => none
theorem puo_none : PuO K tNoPart oNone := fun γ o e σ I H L w Q k => by
  cases e
  exact k I H (New.refl I H) w.sub
theorem puo_some (hf : Pu K te f) : PuO K (tPart te) (oSome f) := fun γ o e σ I H L w Q k => by
  unfold oSome at e
  obtain ⟨x, e1, e2⟩ := Option.bind_eq_some_iff.mp e
  cases x <;> simp at e2
  subst e2
  exact hf γ _ e1 σ I H L w _ fun v I' H' n s hv => by
    cases hv
    exact ⟨_, rfl, k I' H' n s⟩
def SlT (K : PySem.W.Frag) (r : V → Option Int → Option Int → Hp → VK → Prop) (x : D) (lo hi : Option Int) (z : D) : Prop := ∀ I H v, Ex I H → Tp K I H v x → PureR K I H (r v lo hi) z
def pSl (o : D → Option Int → Option Int → Option D) (f : List T → Option D) (a b : List T → Option (Option Int)) : List T → Option D := fun γ => (f γ).bind fun x => (a γ).bind fun l => (b γ).bind fun h => o x l h
theorem pu_sl {o : D → Option Int → Option Int → Option D} {r : V → Option Int → Option Int → Hp → VK → Prop} {tl th : TO} {a b : List T → Option (Option Int)} (hf : Cu K te f) (ha : PuO K tl a) (hb : PuO K th b) (ho : ∀ x l h z, o x l h = some z → SlT K r x l h z) : Pu K (tSl r te tl th) (pSl o f a b) := fun γ z e σ I H L w Q k => by
  unfold pSl at e
  obtain ⟨x, e1, e⟩ := Option.bind_eq_some_iff.mp e
  obtain ⟨l, e2, e⟩ := Option.bind_eq_some_iff.mp e
  obtain ⟨h, e3, e4⟩ := Option.bind_eq_some_iff.mp e
  exact hf γ x e1 σ I H L w _ fun v I1 H1 n1 s1 hv => ha γ l e2 σ I1 H1 L (w.new n1 s1) _ fun I2 H2 n2 s2 => hb γ h e3 σ I2 H2 L (w.new (n1.trans n2) s2) _ fun I3 H3 n3 s3 =>
    ho x l h z e4 I3 H3 v s3 ((hv.new n2).new n3) Q fun o I4 H4 n4 s4 ho => k o I4 H4 (((n1.trans n2).trans n3).trans n4) s4 ho
/-- xs[::-1] -/
def oRev : D → Option D
  | .lst ds => some (.lst ds.reverse)
  | _ => none
theorem pu_rev (hf : Cu K te f) : Pu K (tRevL K te) (pUn oRev f) := fun γ z e σ I H L w Q k => by
  unfold pUn at e
  obtain ⟨x, e1, e2⟩ := Option.bind_eq_some_iff.mp e
  cases x <;> simp [oRev] at e2
  subst e2
  refine hf γ _ e1 σ I H L w _ fun v I1 H1 n1 s1 hv => ?_
  obtain ⟨a, xs, rfl, h1, h2⟩ := hv.l s1
  refine ⟨a, xs, rfl, h1, fun p hp => ?_⟩
  obtain ⟨n, s⟩ := alloc (o := .lst xs.reverse) s1 hp
  exact k _ _ _ (n1.trans n) s (.lst (sq_of upd_same) (h2.reverse.mono n.i))
end
end FD
namespace FD
open PySem PySem.Spec PyProof.Rows L2
section
variable {X : Cx}
def rEqA (K : PySem.W.Frag) : R2 := fun x y H Q => rEq x y H Q ∨ rEqD K x y H Q
def rNeA (K : PySem.W.Frag) : R2 := fun x y H Q => rNe x y H Q ∨ rNeD K x y H Q
theorem op_eqA (hu : X.A.units + 64 < cLine) : OpR X (compareOp .Eq) (rEqA X.K) := OpR.or op_eq (op_eqD hu)
theorem op_neA (hu : X.A.units + 64 < cLine) : OpR X (compareOp .NotEq) (rNeA X.K) := OpR.or op_ne (op_neD hu)
def rInA (K : PySem.W.Frag) : R2 := fun x y H Q => rIn K false x y H Q ∨ (fun x y H Q => rInD K x y H Q ∨ rInTD K false x y H Q) x y H Q
def rNotInA (K : PySem.W.Frag) : R2 := fun x y H Q => rIn K true x y H Q ∨ (fun x y H Q => rNotInD K x y H Q ∨ rInTD K true x y H Q) x y H Q
theorem op_inA (hu : X.A.units + 65 < cLine) : OpR X (compareOp .In) (rInA X.K) := OpR.or op_in_seq (OpR.or (op_inD hu) (op_inTD hu))
theorem op_notInA (hu : X.A.units + 65 < cLine) : OpR X (compareOp .NotIn) (rNotInA X.K) := OpR.or op_notIn_seq (OpR.or (op_notInD hu) (op_notInTD hu))
theorem op_eqAK {K : PySem.W.Frag} (hu : X.A.units + 64 < cLine) (hK : X.K = K := by rfl) : OpR X (compareOp .Eq) (rEqA K) := by subst hK; exact op_eqA hu
theorem op_neAK {K : PySem.W.Frag} (hu : X.A.units + 64 < cLine) (hK : X.K = K := by rfl) : OpR X (compareOp .NotEq) (rNeA K) := by subst hK; exact op_neA hu
theorem op_inAK {K : PySem.W.Frag} (hu : X.A.units + 65 < cLine) (hK : X.K = K := by rfl) : OpR X (compareOp .In) (rInA K) := by subst hK; exact op_inA hu
end
def oAdd : D → D → Option D
  | .int i, .int j => some (.int (i + j))
  | .str a, .str b => if a.length + b.length ≤ sizeLine then some (.str (a ++ b)) else none
  | .lst a, .lst b => if a.length + b.length ≤ sizeLine then some (.lst (a ++ b)) else none
  | .tup a, .tup b => if a.length + b.length ≤ sizeLine then some (.tup (a ++ b)) else none
  | _, _ => none
def oSub : D → D → Option D
  | .int i, .int j => some (.int (i - j))
  | _, _ => none
def mulOk (i j : Int) : Prop := i.natAbs.log2 + j.natAbs.log2 < 1000000
instance (i j : Int) : Decidable (mulOk i j) := inferInstanceAs (Decidable (_ < _))
def oMul : D → D → Option D
  | .int i, .int j => if mulOk i j then some (.int (i * j)) else none
  | _, _ => none
def dvOk (j : Int) : Prop := 0 < j ∧ j.natAbs.log2 < 9000
instance (j : Int) : Decidable (dvOk j) := inferInstanceAs (Decidable (_ ∧ _))
theorem dvOk_s {j : Int} (h : 0 < j) (h2 : j ≤ 18446744073709551616) : dvOk j := lgDiv ⟨h, h2⟩
def oDiv : D → D → Option D
  | .int i, .int j => if dvOk j then some (.int (i / j)) else none
  | _, _ => none
def oMod : D → D → Option D
  | .int i, .int j => if 0 < j then some (.int (i % j)) else none
  | _, _ => none
def oPow : D → D → Option D
  | .int i, .int j => if 0 ≤ j ∧ j ≤ 1000000 ∧ i.natAbs < 2 ^ 64 then some (.int (i ^ j.toNat)) else none
  | _, _ => none
/-- == of values without objects -/
def sEq : D → D → Option Bool
  | .int i, .int j => some (decide (i = j))
  | .str i, .str j => some (decide (i = j))
  | .bl i, .bl j => some (decide (i = j))
  | .non, .non => some true
  | .non, .int _ => some false
  | .int _, .non => some false
  | .non, .bl _ => some false
  | .bl _, .non => some false
  | .non, .str _ => some false
  | .str _, .non => some false
  | .int _, .str _ => some false
  | .str _, .int _ => some false
  | .bl _, .str _ => some false
  | .str _, .bl _ => some false
  | _, _ => none
def oEq (x y : D) : Option D := match sEq x y with
  | some b => some (.bl b)
  | none => if x.shaped = true ∧ y.shaped = true then some (.bl (D.eqv x y)) else none
def oNe (x y : D) : Option D := match sEq x y with
  | some b => some (.bl (!b))
  | none => if x.shaped = true ∧ y.shaped = true then some (.bl (!D.eqv x y)) else none
def D.flat : D → Bool
  | .non => true
  | .bl _ => true
  | .int _ => true
  | .str _ => true
  | _ => false
def fEq : D → D → Bool
  | .non, .non => true
  | .bl a, .bl b => a == b
  | .bl a, .int b => (if a then 1 else 0) == b
  | .int a, .bl b => a == (if b then 1 else 0)
  | .int a, .int b => a == b
  | .str a, .str b => a == b
  | _, _ => false
def items : D → Option (List D)
  | .lst ds => some ds
  | .tup ds => some ds
  | _ => none
def oIn (x y : D) : Option D := match items y with
  | none => none
  | some ds => if x.flat = true ∧ ds.all D.flat = true then some (.bl (ds.any fun z => fEq z x)) else if x.shaped = true ∧ y.shaped = true then some (.bl (ds.any fun z => D.eqv z x)) else none
def oNotIn (x y : D) : Option D := match items y with
  | none => none
  | some ds => if x.flat = true ∧ ds.all D.flat = true then some (.bl (!ds.any fun z => fEq z x)) else if x.shaped = true ∧ y.shaped = true then some (.bl (!ds.any fun z => D.eqv z x)) else none
def oLt : D → D → Option D
  | .int i, .int j => some (.bl (decide (i < j)))
  | .str i, .str j => some (.bl (decide (i.cps.toList < j.cps.toList)))
  | _, _ => none
def oLe : D → D → Option D
  | .int i, .int j => some (.bl (decide (i ≤ j)))
  | .str i, .str j => some (.bl (!decide (j.cps.toList < i.cps.toList)))
  | _, _ => none
def oGt : D → D → Option D
  | .int i, .int j => some (.bl (decide (j < i)))
  | .str i, .str j => some (.bl (decide (j.cps.toList < i.cps.toList)))
  | _, _ => none
def oGe : D → D → Option D
  | .int i, .int j => some (.bl (decide (j ≤ i)))
  | .str i, .str j => some (.bl (!decide (i.cps.toList < j.cps.toList)))
  | _, _ => none
def D.isNon : D → Bool
  | .non => true
  | _ => false
def oIsN : D → D → Option D
  | .raw _, _ => none
  | x, .non => some (.bl x.isNon)
  | _, _ => none
def oNotN : D → D → Option D
  | .raw _, _ => none
  | x, .non => some (.bl (!x.isNon))
  | _, _ => none
def oNotB : D → D → Option D
  | .bl a, .bl b => some (.bl (!decide (a = b)))
  | _, _ => none
def oIx : D → D → Option D
  | .lst ds, .int k => atI ds k
  | .tup ds, .int k => atI ds k
  | .str w, .int k => if w.length ≤ sizeLine then (atI w.cps.toList k).map fun c => .str ⟨#[c]⟩ else none
  | _, _ => none
def oNeg : D → Option D
  | .int i => some (.int (-i))
  | _ => none
def oLen : D → Option D
  | .lst ds => some (.int (ds.length : Nat))
  | .tup ds => some (.int (ds.length : Nat))
  | .str w => if w.length ≤ sizeLine then some (.int (w.length : Nat)) else none
  | _ => none
def oInt : D → Option D
  | .int i => some (.int i)
  | .bl k => some (.int (if k then 1 else 0))
  | _ => none
def oAbs : D → Option D
  | .int i => some (.int (if i < 0 then -i else i))
  | _ => none
def oStr : D → Option D
  | .int i => if i.natAbs.log2 < 1920 then some (.str (toString i)) else none
  | _ => none
def oMax2 : D → D → Option D
  | .int i, .int j => some (.int (if j > i then j else i))
  | _, _ => none
def oMin2 : D → D → Option D
  | .int i, .int j => some (.int (if j < i then j else i))
  | _, _ => none
def oList : D → Option D
  | .lst ds => some (.lst ds)
  | .tup ds => some (.lst ds)
  | _ => none
def oTuple : D → Option D
  | .lst ds => some (.tup ds)
  | .tup ds => some (.tup ds)
  | _ => none
def allB : List D → Option (List Bool)
  | [] => some []
  | .bl b :: ds => (allB ds).map (b :: ·)
  | _ :: _ => none
def allI : List D → Option (List Int)
  | [] => some []
  | .int b :: ds => (allI ds).map (b :: ·)
  | _ :: _ => none
def allS : List D → Option (List Str)
  | [] => some []
  | .str b :: ds => (allS ds).map (b :: ·)
  | _ :: _ => none
def oAny : D → Option D
  | .lst ds => (allB ds).map fun bs => .bl (bs.any id)
  | _ => none
def oAll : D → Option D
  | .lst ds => (allB ds).map fun bs => .bl (bs.all id)
  | _ => none
/-- isinstance(x, a built-in type) -/
def oIsi (T : String) : D → Option D := fun x => if x.typed = true then (kitB x.tyN T).map .bl else none
section
variable {K : PySem.W.Frag} {x y z : D} {r r' : R2}
theorem opt_or1 (h : OpT K r x y z) : OpT K (fun x y H Q => r x y H Q ∨ r' x y H Q) x y z := fun I H v w s hv hw Q q => .inl (h I H v w s hv hw Q q)
theorem opt_or2 (h : OpT K r' x y z) : OpT K (fun x y H Q => r x y H Q ∨ r' x y H Q) x y z := fun I H v w s hv hw Q q => .inr (h I H v w s hv hw Q q)
theorem add_t : ∀ x y z, oAdd x y = some z → OpT K (rAddA K) x y z := fun x y z e => by
  unfold oAdd at e
  split at e
  · cases e; exact opd_add.t rfl
  · split at e
    · rename_i h; cases e; exact (opd_addStr h).t rfl
    · cases e
  · split at e
    · rename_i a b h
      cases e
      intro I H v w s hv hw Q q
      obtain ⟨p1, xs, rfl, h1, h2⟩ := hv.l s
      obtain ⟨p2, ys, rfl, h3, h4⟩ := hw.l s
      exact .inr (.inr (.inl ⟨_, _, _, _, rfl, rfl, h1, h3, by rw [h2.length, h4.length]; exact h, fun p hp => let ⟨n, e⟩ := alloc (o := .lst _) s hp; q _ _ _ n e (.lst (sq_of upd_same) ((h2.append h4).mono n.i))⟩))
    · cases e
  · split at e
    · rename_i a b h
      cases e
      intro I H v w s hv hw
      cases hv with
      | is hv => cases hw with
        | is hw => exact opd_addT h I H _ _ s hv hw
    · cases e
  · cases e
theorem mul_t : ∀ x y z, oMul x y = some z → OpT K (rI CMulW fun i j => .int (i * j)) x y z := fun x y z e => by
  unfold oMul at e
  split at e
  · split at e
    · rename_i h; cases e; exact (opd_mul h).t rfl
    · cases e
  · cases e
theorem div_t : ∀ x y z, oDiv x y = some z → OpT K (rI CDivW fun i j => .int (i / j)) x y z := fun x y z e => by
  unfold oDiv at e
  split at e
  · split at e
    · rename_i h; cases e; exact (opd_fdiv h).t rfl
    · cases e
  · cases e
theorem mod_t : ∀ x y z, oMod x y = some z → OpT K (rI (fun _ j => 0 < j) fun i j => .int (i % j)) x y z := fun x y z e => by
  unfold oMod at e
  split at e
  · split at e
    · rename_i h; cases e; exact (opd_mod h).t rfl
    · cases e
  · cases e
theorem pow_t : ∀ x y z, oPow x y = some z → OpT K (rI CPow fun i j => .int (i ^ j.toNat)) x y z := fun x y z e => by
  unfold oPow at e
  split at e
  · split at e
    · rename_i h; cases e; exact (opd_pow h).t rfl
    · cases e
  · cases e
theorem sEq_v {b : Bool} (e : sEq x y = some b) {I H : Hp} {v w : V} (hv : Tp K I H v x) (hw : Tp K I H w y) : scal v w = true ∧ decide (v = w) = b := by
  unfold sEq at e
  split at e <;> cases e
  · obtain rfl := hv.n_; obtain rfl := hw.n_; exact ⟨rfl, by simp⟩
  · obtain rfl := hv.s; obtain rfl := hw.s; exact ⟨rfl, by simp⟩
  · obtain rfl := hv.b; obtain rfl := hw.b; exact ⟨rfl, by simp⟩
  · obtain rfl := hv.n; obtain rfl := hw.n; exact ⟨rfl, by simp⟩
  · obtain rfl := hv.n; obtain rfl := hw.n_; exact ⟨rfl, by simp⟩
  · obtain rfl := hv.n_; obtain rfl := hw.n; exact ⟨rfl, by simp⟩
  · obtain rfl := hv.n; obtain rfl := hw.b; exact ⟨rfl, by simp⟩
  · obtain rfl := hv.b; obtain rfl := hw.n; exact ⟨rfl, by simp⟩
  · obtain rfl := hv.n; obtain rfl := hw.s; exact ⟨rfl, by simp⟩
  · obtain rfl := hv.s; obtain rfl := hw.n; exact ⟨rfl, by simp⟩
  · obtain rfl := hv.n_; obtain rfl := hw.s; exact ⟨rfl, by simp⟩
  · obtain rfl := hv.s; obtain rfl := hw.n_; exact ⟨rfl, by simp⟩
  · obtain rfl := hv.b; obtain rfl := hw.s; exact ⟨rfl, by simp⟩
  · obtain rfl := hv.s; obtain rfl := hw.b; exact ⟨rfl, by simp⟩
theorem eq_t : ∀ x y z, oEq x y = some z → OpT K (rEqA K) x y z := fun x y z e => by
  unfold oEq at e
  split at e
  · rename_i b h
    cases e
    refine opt_or1 fun I H v w s hv hw Q q => ?_
    obtain ⟨h1, h2⟩ := sEq_v h hv hw
    exact ⟨h1, q _ I H (New.refl I H) s (h2 ▸ .bl _)⟩
  · split at e
    · rename_i h; cases e; exact opt_or2 ((opd_eqD h.1 h.2).t rfl)
    · cases e
theorem ne_t : ∀ x y z, oNe x y = some z → OpT K (rNeA K) x y z := fun x y z e => by
  unfold oNe at e
  split at e
  · rename_i b h
    cases e
    refine opt_or1 fun I H v w s hv hw Q q => ?_
    obtain ⟨h1, h2⟩ := sEq_v h hv hw
    exact ⟨h1, q _ I H (New.refl I H) s (h2 ▸ .bl _)⟩
  · split at e
    · rename_i h; cases e; exact opt_or2 ((opd_neD h.1 h.2).t rfl)
    · cases e
def D.fv : D → V
  | .bl b => .bl b
  | .int i => .int i
  | .str s => .str s
  | _ => .non
theorem Is.fv {I : Hp} {v : V} (h : Is K I v x) (f : x.flat = true) : v = x.fv ∧ flatV v = true := by
  cases h <;> first | exact ⟨rfl, rfl⟩ | cases f
theorem Tp.fv {I H : Hp} {v : V} (h : Tp K I H v x) (f : x.flat = true) : v = x.fv ∧ flatV v = true := by
  cases h with
  | is h => exact Is.fv h f
  | lst => cases f
  | dic => cases f
theorem isA_fv {I : Hp} : ∀ {ds : List D} {vs : List V}, IsA K I vs ds → ds.all D.flat = true → vs = ds.map D.fv ∧ vs.all flatV = true
  | [], _, h, _ => by cases h; exact ⟨rfl, rfl⟩
  | d :: ds, _, h, f => by
    cases h with
    | cons h1 h2 =>
      simp only [List.all_cons, Bool.and_eq_true] at f
      obtain ⟨e1, e2⟩ := Is.fv h1 f.1
      obtain ⟨e3, e4⟩ := isA_fv h2 f.2
      subst e1 e3
      exact ⟨rfl, by simp [e2, e4]⟩
theorem eqV_fv {x y : D} (hx : x.flat = true) (hy : y.flat = true) : eqV x.fv y.fv = fEq x y := by
  cases x <;> cases hx <;> cases y <;> cases hy <;> rfl
theorem inV_fv (hx : x.flat = true) {ds : List D} (h : ds.all D.flat = true) : inV x.fv (ds.map D.fv) = ds.any fun z => fEq z x := by
  unfold inV
  induction ds with
  | nil => rfl
  | cons d ds ih =>
    simp only [List.all_cons, Bool.and_eq_true] at h
    rw [List.map_cons, List.any_cons, List.any_cons, eqV_fv h.1 hx, ih h.2]
theorem Tp.seq {ds : List D} {I H : Hp} {v : V} (s : Ex I H) (h : Tp K I H v y) (e : items y = some ds) : ∃ a xs, v = .ref a ∧ (SqL K H a xs ∨ SqT K H a xs) ∧ IsA K I xs ds := by
  cases y <;> simp [items] at e
  · subst e; obtain ⟨a, xs, h1, h2, h3⟩ := h.l s; exact ⟨a, xs, h1, .inl h2, h3⟩
  · subst e; obtain ⟨a, xs, h1, h2, h3⟩ := h.t s; exact ⟨a, xs, h1, .inr h2, h3⟩
theorem any_pyA {ds : List D} : ((D.pyA ds).any fun z => PyData.eqv z x.py) = ds.any fun z => D.eqv z x := by
  rw [pyA_map, List.any_map]
  rfl
theorem in_t : ∀ x y z, oIn x y = some z → OpT K (rInA K) x y z := fun x y z e => by
  unfold oIn at e
  split at e
  · cases e
  · rename_i ds hi
    split at e
    · rename_i h
      cases e
      refine opt_or1 fun I H v w s hv hw Q q => ?_
      obtain ⟨a, xs, rfl, h1, h2⟩ := hw.seq s hi
      obtain ⟨rfl, e2⟩ := hv.fv h.1
      obtain ⟨rfl, e4⟩ := isA_fv h2 h.2
      refine ⟨a, _, rfl, h1, e2, e4, ?_⟩
      rw [if_neg Bool.false_ne_true, inV_fv h.1 h.2]
      exact q _ I H (New.refl I H) s (.bl _)
    · split at e
      · rename_i h
        cases e
        refine opt_or2 ?_
        cases y <;> simp [items] at hi
        · subst hi; rw [← any_pyA]; exact opt_or1 ((opd_inD h.1 h.2).t rfl)
        · subst hi
          have := (opd_inTD (K := K) (ng := false) h.1 h.2).t rfl
          simp only [Bool.xor_false] at this
          exact opt_or2 this
      · cases e
theorem notIn_t : ∀ x y z, oNotIn x y = some z → OpT K (rNotInA K) x y z := fun x y z e => by
  unfold oNotIn at e
  split at e
  · cases e
  · rename_i ds hi
    split at e
    · rename_i h
      cases e
      refine opt_or1 fun I H v w s hv hw Q q => ?_
      obtain ⟨a, xs, rfl, h1, h2⟩ := hw.seq s hi
      obtain ⟨rfl, e2⟩ := hv.fv h.1
      obtain ⟨rfl, e4⟩ := isA_fv h2 h.2
      refine ⟨a, _, rfl, h1, e2, e4, ?_⟩
      rw [if_pos rfl, inV_fv h.1 h.2]
      exact q _ I H (New.refl I H) s (.bl _)
    · split at e
      · rename_i h
        cases e
        refine opt_or2 ?_
        cases y <;> simp [items] at hi
        · subst hi; rw [← any_pyA]; exact opt_or1 ((opd_notInD h.1 h.2).t rfl)
        · subst hi
          have := (opd_inTD (K := K) (ng := true) h.1 h.2).t rfl
          simp only [Bool.xor_true] at this
          exact opt_or2 this
      · cases e
theorem opt_ii {f : Int → Int → Bool} {i j : Int} : OpT K (rI0 fun i j => .bl (f i j)) (.int i) (.int j) (.bl (f i j)) := OpD.t opd_Ib rfl
theorem opt_ss {f : Str → Str → Bool} {i j : Str} : OpT K (fun x y H Q => ∃ i j, x = .str i ∧ y = .str j ∧ Q (.bl (f i j)) H) (.str i) (.str j) (.bl (f i j)) := fun I H v w s hv hw Q q => by
  obtain rfl := hv.s
  obtain rfl := hw.s
  exact ⟨i, j, rfl, rfl, q _ I H (New.refl I H) s (.bl _)⟩
theorem lt_t : ∀ x y z, oLt x y = some z → OpT K rLtA x y z := fun x y z e => by
  unfold oLt at e
  split at e <;> cases e
  · exact opt_or1 (opt_ii (f := fun i j => decide (i < j)))
  · exact opt_or2 (opt_ss (f := fun i j => decide (i.cps.toList < j.cps.toList)))
theorem le_t : ∀ x y z, oLe x y = some z → OpT K rLeA x y z := fun x y z e => by
  unfold oLe at e
  split at e <;> cases e
  · exact opt_or1 (opt_ii (f := fun i j => decide (i ≤ j)))
  · exact opt_or2 (opt_ss (f := fun i j => !decide (j.cps.toList < i.cps.toList)))
theorem gt_t : ∀ x y z, oGt x y = some z → OpT K rGtA x y z := fun x y z e => by
  unfold oGt at e
  split at e <;> cases e
  · exact opt_or1 (opt_ii (f := fun i j => decide (j < i)))
  · exact opt_or2 (opt_ss (f := fun i j => decide (j.cps.toList < i.cps.toList)))
theorem ge_t : ∀ x y z, oGe x y = some z → OpT K rGeA x y z := fun x y z e => by
  unfold oGe at e
  split at e <;> cases e
  · exact opt_or1 (opt_ii (f := fun i j => decide (j ≤ i)))
  · exact opt_or2 (opt_ss (f := fun i j => !decide (i.cps.toList < j.cps.toList)))
theorem Tp.non {I H : Hp} {v : V} (h : Tp K I H v x) (nr : ∀ v, x ≠ .raw v) : decide (v = .non) = x.isNon := by
  cases h with
  | is h => cases h <;> first | rfl | exact absurd rfl (nr _)
  | lst => rfl
  | dic => rfl
theorem notB_t : ∀ x y z, oNotB x y = some z → OpT K (fun x y H Q => ∃ a b, x = .bl a ∧ y = .bl b ∧ Q (.bl (!decide (a = b))) H) x y z := fun x y z e => by
  unfold oNotB at e
  split at e <;> cases e
  exact opd_isnotBl.t rfl
theorem ix_t : ∀ x y z, oIx x y = some z → OpT K (rIx K) x y z := fun x y z e => by
  unfold oIx at e
  split at e
  · intro I H v w s hv hw Q q
    obtain ⟨a, xs, rfl, h1, h2⟩ := hv.l s
    obtain rfl := hw.n_
    obtain ⟨v, e, hv⟩ := h2.atI e
    exact .inl ⟨_, _, _, v, rfl, rfl, h1, e, q v I H (New.refl I H) s hv⟩
  · intro I H v w s hv hw Q q
    obtain ⟨a, xs, rfl, h1, h2⟩ := hv.t s
    obtain rfl := hw.n_
    obtain ⟨v, e, hv⟩ := h2.atI e
    exact .inr (.inl ⟨_, _, _, v, rfl, rfl, h1, e, q v I H (New.refl I H) s hv⟩)
  · rename_i w k
    split at e
    · rename_i hl
      cases ec : atI w.cps.toList k with
      | none => simp [ec] at e
      | some c =>
        simp [ec] at e
        subst e
        exact OpD.t (opd_ixS hl ec) rfl
    · cases e
  · cases e
theorem len_t : ∀ x z, oLen x = some z → CallT K (fun v => rLenA K [v]) x z := fun x z e => by
  unfold oLen at e
  split at e
  · cases e; exact cd_lenList.t rfl
  · cases e; exact cd_lenTup.t rfl
  · split at e
    · rename_i h; cases e; exact (cd_lenStr h).t rfl
    · cases e
  · cases e
theorem int_t : ∀ x z, oInt x = some z → CallT K (fun v => (fun xs H Q => (∃ i, xs = [V.int i] ∧ Q (V.int i) H) ∨ ∃ k, xs = [V.bl k] ∧ Q (V.int (if k then 1 else 0)) H : List V → Hp → VK → Prop) [v]) x z := fun x z e => by
  unfold oInt at e
  split at e <;> cases e
  · exact cd_int.t rfl
  · intro I H v s hv Q q
    obtain rfl := hv.b
    exact .inr ⟨_, rfl, q _ I H (New.refl I H) s (.int _)⟩
theorem abs_t : ∀ x z, oAbs x = some z → CallT K (fun v => (fun xs H Q => ∃ i, xs = [V.int i] ∧ Q (V.int (if i < 0 then -i else i)) H : List V → Hp → VK → Prop) [v]) x z := fun x z e => by
  unfold oAbs at e
  split at e <;> cases e
  exact cd_abs.t rfl
theorem max2_t : ∀ x y z, oMax2 x y = some z → OpT K (fun v w => (fun xs H Q => ∃ i j, xs = [V.int i, V.int j] ∧ Q (V.int (if j > i then j else i)) H : List V → Hp → VK → Prop) [v, w]) x y z := fun x y z e => by
  unfold oMax2 at e
  split at e <;> cases e
  intro I H v w s hv hw Q q
  obtain rfl := hv.n_
  obtain rfl := hw.n_
  exact ⟨_, _, rfl, q _ I H (New.refl I H) s (.int _)⟩
theorem min2_t : ∀ x y z, oMin2 x y = some z → OpT K (fun v w => (fun xs H Q => ∃ i j, xs = [V.int i, V.int j] ∧ Q (V.int (if j < i then j else i)) H : List V → Hp → VK → Prop) [v, w]) x y z := fun x y z e => by
  unfold oMin2 at e
  split at e <;> cases e
  intro I H v w s hv hw Q q
  obtain rfl := hv.n_
  obtain rfl := hw.n_
  exact ⟨_, _, rfl, q _ I H (New.refl I H) s (.int _)⟩
theorem tuple_t : ∀ x z, oTuple x = some z → CallT K (fun v => rTupOf K [v]) x z := fun x z e => by
  unfold oTuple at e
  split at e <;> cases e
  · intro I H v s hv Q q
    obtain ⟨a, xs, rfl, h1, h2⟩ := hv.l s
    exact ⟨a, xs, rfl, .inl ⟨h1, fun p hp => let ⟨n, e⟩ := alloc (o := .tup _) s hp; q _ _ _ n e (.tup (st_of upd_same) (h2.mono n.i))⟩⟩
  · intro I H v s hv Q q
    cases hv with
    | is hv => cases hv with
      | tup h1 h2 => exact ⟨_, _, rfl, .inr ⟨s.t h1, q _ I H (New.refl I H) s (.tup h1 h2)⟩⟩
theorem allB_eq : ∀ {ds : List D} {bs : List Bool}, allB ds = some bs → ds = bs.map .bl
  | [], _, e => by cases e; rfl
  | d :: ds, _, e => by
    cases d <;> simp [allB] at e
    obtain ⟨cs, e1, rfl⟩ := e
    rw [allB_eq e1]; rfl
theorem allS_eq : ∀ {ds : List D} {bs : List Str}, allS ds = some bs → ds = bs.map .str
  | [], _, e => by cases e; rfl
  | d :: ds, _, e => by
    cases d <;> simp [allS] at e
    obtain ⟨cs, e1, rfl⟩ := e
    rw [allS_eq e1]; rfl
theorem all_t : ∀ x z, oAll x = some z → CallT K (fun v => rAll K [v]) x z := fun x z e => by
  unfold oAll at e
  split at e
  · rename_i ds
    cases e1 : allB ds with
    | none => simp [e1] at e
    | some bs =>
      simp [e1] at e
      subst e
      rw [allB_eq e1]
      exact cd_all.t rfl
  · cases e
theorem isi_t (T : String) : ∀ x y z, (fun x y => match y with | .raw (.ty T) => oIsi T x | _ => none : D → D → Option D) x y = some z → OpT K (fun v w => rIsi K [v, w]) x y z := fun x y z e => by
  dsimp only at e
  split at e
  · rename_i T
    unfold oIsi at e
    split at e
    · rename_i ht
      cases e1 : kitB x.tyN T with
      | none => simp [e1] at e
      | some b =>
        simp [e1] at e
        subst e
        intro I H v w s hv hw Q q
        obtain ⟨I1, i1, s1, hv1⟩ := hv.frz s
        cases hw with
        | is hw =>
          cases hw
          exact ⟨_, _, _, _, b, rfl, .ty T, hv1.tyx s1 ht, kit_ty e1, q _ I H (New.refl I H) s (.bl _)⟩
    · cases e
  · cases e
end
def oSl : D → Option Int → Option Int → Option D
  | .lst ds, lo, hi => some (.lst (cutD ds lo hi))
  | .tup ds, lo, hi => some (.tup (cutD ds lo hi))
  | .str w, lo, hi => if w.length ≤ sizeLine then some (.str (cutS w lo hi)) else none
  | _, _, _ => none
theorem cutD_whole {ds : List D} {lo hi : Option Int} (h : HT.sIx ds.length 0 lo = 0 ∧ HT.sIx ds.length ds.length hi = ds.length) : cutD ds lo hi = ds := by
  unfold cutD
  rw [h.1, h.2]
  simp
theorem sl_t {K : PySem.W.Frag} : ∀ x l h z, oSl x l h = some z → SlT K (rSlAny K) x l h z := fun x l h z e => by
  unfold oSl at e
  split at e
  · cases e
    intro I H v s hv Q q
    obtain ⟨a, xs, rfl, h1, h2⟩ := hv.l s
    exact .inl ⟨_, _, rfl, h1, fun p hp => let ⟨n, e⟩ := alloc (o := .lst _) s hp; q _ _ _ n e (.lst (sq_of upd_same) ((h2.cut l h).mono n.i))⟩
  · cases e
    intro I H v s hv Q q
    cases hv with
    | is hv => cases hv with
      | tup h1 h2 =>
        refine .inr (.inl ⟨_, _, rfl, s.t h1, fun c => ?_, fun c p hp => ?_⟩)
        · rw [h2.length] at c
          rw [cutD_whole c] at q
          exact q _ I H (New.refl I H) s (.tup h1 h2)
        · obtain ⟨n, e⟩ := alloc (o := .tup _) s hp
          exact q _ _ _ n e (.tup (st_of upd_same) ((h2.cut l h).mono n.i))
  · split at e
    · rename_i hz
      cases e
      intro I H v s hv Q q
      obtain rfl := hv.s
      exact .inr (.inr ⟨_, rfl, hz, q _ I H (New.refl I H) s (.str _)⟩)
    · cases e
  · cases e
end FD
namespace FD
open PySem PySem.Spec PyProof.Rows L2
def Ef (K : PySem.W.Frag) (te : TE) (f : List T → Option (T × List T)) : Prop := ∀ γ t γ', f γ = some (t, γ') → ∀ σ I H L, WS K γ σ I H L → ∀ Q : VK, (∀ v I' H' L', WS K (t :: γ') (some v :: σ) I' H' L' → Step I H L I' H' L' → Q v H') → te σ H Q
def EfT (K : PySem.W.Frag) (tt : TT) (f : List T → Option (Bool × List T)) : Prop := ∀ γ b γ', f γ = some (b, γ') → ∀ σ I H L, WS K γ σ I H L → ∀ Q : Bool → Hp → Prop, (∀ I' H' L', WS K γ' σ I' H' L' → Step I H L I' H' L' → Q b H') → tt σ H Q
/-- borrowed slots among arguments -/
def Bor (σ : Sg) : List (Option Nat) → List V → Prop
  | [], vs => vs = []
  | none :: bs, vs => ∃ v ws, vs = v :: ws ∧ Bor σ bs ws
  | some i :: bs, vs => ∃ v ws, vs = v :: ws ∧ σ[i]? = some (some v) ∧ Bor σ bs ws
def EfA (K : PySem.W.Frag) (ta : TA) (bs : List (Option Nat)) (f : List T → Option (List T × List T)) : Prop := ∀ γ ts γ', f γ = some (ts, γ') → ∀ σ I H L, WS K γ σ I H L → ∀ Q : List V → Hp → Prop, (∀ vs I' H' L', WS K (ts ++ γ') (vs.map some ++ σ) I' H' L' → Step I H L I' H' L' → Bor σ bs vs → Q vs H') → ta σ H Q
section
variable {K : PySem.W.Frag} {ta tb tc te to : TE} {tt tu : TT} {I I' H H' : Hp} {γ γ' : List T} {σ : Sg} {L : List Addr} {t : T} {v : V} {x : D}
theorem New.stp {L : List Addr} (n : New I H I' H') : Step I H L I' H' L := n.step L
def eP (f : List T → Option D) : List T → Option (T × List T) := fun γ => (f γ).map fun x => (.d x, γ)
theorem ef_p {f : List T → Option D} (h : Pu K te f) : Ef K te (eP f) := fun γ t γ' e σ I H L w Q k => by
  unfold eP at e
  cases e1 : f γ with
  | none => simp [e1] at e
  | some x =>
    simp [e1] at e
    obtain ⟨rfl, rfl⟩ := e
    exact h γ x e1 σ I H L w Q fun v I' H' n s hv => k v I' H' L ((w.new n s).front hv) n.stp
def eT (f : List T → Option Bool) : List T → Option (Bool × List T) := fun γ => (f γ).map fun b => (b, γ)
theorem eft_p {f : List T → Option Bool} (h : PuT K tt f) : EfT K tt (eT f) := fun γ t γ' e σ I H L w Q k => by
  unfold eT at e
  cases e1 : f γ with
  | none => simp [e1] at e
  | some x =>
    simp [e1] at e
    obtain ⟨rfl, rfl⟩ := e
    exact h γ x e1 σ I H L w Q fun I' H' n s => k I' H' L (w.new n s) n.stp
def aNil : List T → Option (List T × List T) := fun γ => some ([], γ)
theorem efa_nil : EfA K tNil [] aNil := fun γ ts γ' e σ I H L w Q k => by
  cases e
  exact k [] I H L w (Step.refl I H L) rfl
def aCons (f : List T → Option (T × List T)) (g : List T → Option (List T × List T)) : List T → Option (List T × List T) := fun γ => (f γ).bind fun p => (g p.2).map fun q => (p.1 :: q.1, q.2)
theorem efa_cons {tr : TA} {bs : List (Option Nat)} {f : List T → Option (T × List T)} {g : List T → Option (List T × List T)} (hf : Ef K ta f) (hg : EfA K tr bs g) : EfA K (tCons ta tr) (none :: bs) (aCons f g) := fun γ ts γ' e σ I H L w Q k => by
  unfold aCons at e
  obtain ⟨⟨t, γ1⟩, e1, e⟩ := Option.bind_eq_some_iff.mp e
  cases e2 : g γ1 with
  | none => simp [e2] at e
  | some q =>
    obtain ⟨us, γ2⟩ := q
    simp [e2] at e
    obtain ⟨rfl, rfl⟩ := e
    refine hf γ t γ1 e1 σ I H L w _ fun v I1 H1 L1 w1 s1 => ?_
    obtain ⟨M1, M2, rfl, w2, hold⟩ := w1.hold
    refine hg γ1 us γ2 e2 σ I1 H1 M2 w2 _ fun vs I3 H3 L3 w3 s3 hb => ?_
    obtain ⟨w4, s4⟩ := hold w3 s3
    exact k (v :: vs) I3 H3 _ w4 (s1.trans s4) ⟨v, vs, rfl, hb⟩
/-- a slot's own thing, handed on -/
def aBor (i : Nat) (g : List T → Option (List T × List T)) : List T → Option (List T × List T) := fun γ => match γ[i]? with
  | some .em => none
  | some _ => (g γ).map fun q => (.em :: q.1, q.2)
  | none => none
theorem efa_bor {tr : TA} {bs : List (Option Nat)} {g : List T → Option (List T × List T)} (i : Nat) (hg : EfA K tr bs g) : EfA K (tCons (tVar i) tr) (some i :: bs) (aBor i g) := fun γ ts γ' e σ I H L w Q k => by
  have : ∃ t, γ[i]? = some t ∧ t ≠ .em ∧ (g γ).map (fun q => (T.em :: q.1, q.2)) = some (ts, γ') := by
    unfold aBor at e
    split at e
    · cases e
    · rename_i u ne h; exact ⟨u, h, fun z => ne z, e⟩
    · cases e
  obtain ⟨u, h1, h2, e⟩ := this
  obtain ⟨v, h3, _⟩ := w.env.get h1 h2
  cases e2 : g γ with
  | none => simp [e2] at e
  | some q =>
    obtain ⟨us, γ2⟩ := q
    simp [e2] at e
    obtain ⟨rfl, rfl⟩ := e
    refine ⟨v, h3, hg γ us γ2 e2 σ I H L w _ fun vs I3 H3 L3 w3 s3 hb => ?_⟩
    exact k (v :: vs) I3 H3 _ ⟨.em _ w3.env, w3.nd, w3.fr, w3.sub⟩ s3 ⟨v, vs, rfl, h3, hb⟩
/-- what the arguments are, read -/
def res1 (γ : List T) : Option Nat → T → Option D
  | some i, _ => (γ[i]?).bind T.top
  | none, t => t.toD
def resA (γ : List T) : List (Option Nat) → List T → Option (List D)
  | [], [] => some []
  | b :: bs, t :: ts => (res1 γ b t).bind fun x => (resA γ bs ts).map (x :: ·)
  | _, _ => none
inductive TpA (K : PySem.W.Frag) (I H : Hp) : List V → List D → Prop
  | nil : TpA K I H [] []
  | cons {v : V} {vs : List V} {x : D} {xs : List D} : Tp K I H v x → TpA K I H vs xs → TpA K I H (v :: vs) (x :: xs)
theorem TpA.mono (e : Ex I I') : ∀ {vs : List V} {xs : List D}, TpA K I H vs xs → TpA K I' H vs xs
  | _, _, .nil => .nil
  | _, _, .cons a b => .cons (a.mono e) (b.mono e)
theorem res_ok : ∀ {bs : List (Option Nat)} {ts : List T} {vs : List V} {xs : List D} {I : Hp} {L : List Addr}, WS K (ts ++ γ) (vs.map some ++ σ) I H L → Bor σ bs vs → resA γ bs ts = some xs → ∃ I' L', WS K γ σ I' H L' ∧ Step I H L I' H L' ∧ TpA K I' H vs xs
  | [], [], vs, xs, I, L, w, hb, e => by
    cases (show vs = [] from hb)
    cases e
    exact ⟨I, L, w, Step.refl I H L, .nil⟩
  | [], _ :: _, _, _, _, _, _, _, e => by simp [resA] at e
  | _ :: _, [], _, _, _, _, _, _, e => by simp [resA] at e
  | b :: bs, t :: ts, vs, xs, I, L, w, hb, e => by
    unfold resA at e
    obtain ⟨x, e1, e⟩ := Option.bind_eq_some_iff.mp e
    cases e2 : resA γ bs ts with
    | none => simp [e2] at e
    | some ys =>
      simp [e2] at e
      subst e
      cases b with
      | none =>
        obtain ⟨v, ws, rfl, hb⟩ := hb
        obtain ⟨I1, L1, w1, s1, hv⟩ := WS.frz (σ := ws.map some ++ σ) w (show t.toD = some x from e1)
        obtain ⟨I2, L2, w2, s2, hvs⟩ := res_ok w1 hb e2
        exact ⟨I2, L2, w2, s1.trans s2, .cons (.is (hv.mono s2.i)) hvs⟩
      | some i =>
        obtain ⟨v, ws, rfl, hi, hb⟩ := hb
        obtain ⟨L1, w1, s1, _⟩ := WS.tail (σ := ws.map some ++ σ) w
        obtain ⟨I2, L2, w2, s2, hvs⟩ := res_ok w1 hb e2
        refine ⟨I2, L2, w2, s1.trans s2, .cons ?_ hvs⟩
        have e1' : (γ[i]?).bind T.top = some x := e1
        cases e3 : γ[i]? with
        | none => simp [e3] at e1'
        | some u =>
          simp [e3] at e1'
          have hu : u ≠ .em := fun z => by subst z; simp [T.top] at e1'
          obtain ⟨v', h1, _, _, _, _, h2, _⟩ := w2.env.get e3 hu
          rw [hi] at h1
          cases h1
          exact h2.top e1'
/-- all arguments data -/
theorem TpA.is : ∀ {I : Hp} {vs : List V} {xs : List D}, Ex I H → TpA K I H vs xs → ∃ I', Ex I I' ∧ Ex I' H ∧ IsA K I' vs xs
  | I, _, _, s, .nil => ⟨I, Ex.refl I, s, .nil⟩
  | I, _, _, s, .cons a b => by
    obtain ⟨I1, e1, s1, h1⟩ := a.frz s
    obtain ⟨I2, e2, s2, h2⟩ := TpA.is s1 (b.mono e1)
    exact ⟨I2, e1.trans e2, s2, .cons (h1.mono e2) h2⟩
def eOp (bs : List (Option Nat)) (o : D → D → Option D) (g : List T → Option (List T × List T)) : List T → Option (T × List T) := fun γ => (g γ).bind fun q => (resA q.2 bs q.1).bind fun xs => match xs with
  | [x, y] => (o x y).map fun z => (.d z, q.2)
  | _ => none
theorem op_of {bs : List (Option Nat)} {o : D → D → Option D} {g : List T → Option (List T × List T)} {r : R2} {ts : TA} (hg : EfA K ts bs g) (ho : ∀ x y z, o x y = some z → OpT K r x y z) : ∀ γ t γ', eOp bs o g γ = some (t, γ') → ∀ σ I H L, WS K γ σ I H L → ∀ Q : VK, (∀ v I' H' L', WS K (t :: γ') (some v :: σ) I' H' L' → Step I H L I' H' L' → Q v H') → ts σ H fun vs H2 => match vs with | [x, y] => r x y H2 Q | _ => False := fun γ t γ' e σ I H L w Q k => by
  unfold eOp at e
  obtain ⟨⟨us, γ1⟩, e1, e⟩ := Option.bind_eq_some_iff.mp e
  obtain ⟨xs, e2, e⟩ := Option.bind_eq_some_iff.mp e
  have : ∃ x y z, xs = [x, y] ∧ o x y = some z ∧ t = .d z ∧ γ' = γ1 := by
    split at e
    · rename_i x y
      cases e3 : o x y with
      | none => simp [e3] at e
      | some z => simp [e3] at e; exact ⟨x, y, z, rfl, e3, e.1.symm, e.2.symm⟩
    · cases e
  obtain ⟨x, y, z, rfl, e3, rfl, rfl⟩ := this
  refine hg γ us γ' e1 σ I H L w _ fun vs I1 H1 L1 w1 s1 hb => ?_
  obtain ⟨I2, L2, w2, s2, hvs⟩ := res_ok w1 hb e2
  cases hvs with
  | cons h1 h2 =>
    cases h2 with
    | cons h2 h3 =>
      cases h3
      exact ho x y z e3 I2 H1 _ _ w2.sub h1 h2 Q fun u I3 H3 n3 s3 hu => k u I3 H3 L2 ((w2.new n3 s3).front hu) ((s1.trans s2).trans n3.stp)
theorem ef_op {bs : List (Option Nat)} {o : D → D → Option D} {g : List T → Option (List T × List T)} {r : R2} (hg : EfA K (tCons ta (tCons tb tNil)) bs g) (ho : ∀ x y z, o x y = some z → OpT K r x y z) : Ef K (tOp r ta tb) (eOp bs o g) := fun γ t γ' e σ I H L w Q k => op_of hg ho γ t γ' e σ I H L w Q k
def eUn (bs : List (Option Nat)) (o : D → Option D) (g : List T → Option (List T × List T)) : List T → Option (T × List T) := fun γ => (g γ).bind fun q => (resA q.2 bs q.1).bind fun xs => match xs with
  | [x] => (o x).map fun z => (.d z, q.2)
  | _ => none
/-- a built-in of many data -/
def eCB (bs : List (Option Nat)) (o : List D → Option D) (g : List T → Option (List T × List T)) : List T → Option (T × List T) := fun γ => (g γ).bind fun q => (resA q.2 bs q.1).bind fun xs => (o xs).map fun z => (.d z, q.2)
/-- arguments that are data of their own -/
def resI : List (Option Nat) → List T → Option (List D)
  | [], [] => some []
  | none :: bs, t :: ts => t.toD.bind fun x => (resI bs ts).map (x :: ·)
  | _, _ => none
theorem resI_ok : ∀ {bs : List (Option Nat)} {ts : List T} {vs : List V} {xs : List D} {I : Hp} {L : List Addr}, WS K (ts ++ γ) (vs.map some ++ σ) I H L → Bor σ bs vs → resI bs ts = some xs → ∃ I' L', WS K γ σ I' H L' ∧ Step I H L I' H L' ∧ IsA K I' vs xs
  | [], [], vs, xs, I, L, w, hb, e => by
    cases (show vs = [] from hb)
    cases e
    exact ⟨I, L, w, Step.refl I H L, .nil⟩
  | [], _ :: _, _, _, _, _, _, _, e => by simp [resI] at e
  | _ :: _, [], _, _, _, _, _, _, e => by simp [resI] at e
  | some _ :: bs, t :: ts, vs, xs, I, L, w, hb, e => by simp [resI] at e
  | none :: bs, t :: ts, vs, xs, I, L, w, hb, e => by
    unfold resI at e
    obtain ⟨x, e1, e⟩ := Option.bind_eq_some_iff.mp e
    cases e2 : resI bs ts with
    | none => simp [e2] at e
    | some ys =>
      simp [e2] at e
      subst e
      obtain ⟨v, ws, rfl, hb⟩ := hb
      obtain ⟨I1, L1, w1, s1, hv⟩ := WS.frz (σ := ws.map some ++ σ) w e1
      obtain ⟨I2, L2, w2, s2, hvs⟩ := resI_ok w1 hb e2
      exact ⟨I2, L2, w2, s1.trans s2, .cons (hv.mono s2.i) hvs⟩
def eTup (bs : List (Option Nat)) (g : List T → Option (List T × List T)) : List T → Option (T × List T) := fun γ => (g γ).bind fun q => (resI bs q.1).bind fun xs => if xs.length ≤ sizeLine then some (.d (.tup xs), q.2) else none
theorem ef_tup {tr : TA} {bs : List (Option Nat)} {g : List T → Option (List T × List T)} (hg : EfA K tr bs g) : Ef K (tTup tr) (eTup bs g) := fun γ t γ' e σ I H L w Q k => by
  unfold eTup at e
  obtain ⟨⟨us, γ1⟩, e1, e⟩ := Option.bind_eq_some_iff.mp e
  obtain ⟨xs, e2, e⟩ := Option.bind_eq_some_iff.mp e
  split at e
  · rename_i hz
    cases e
    refine hg γ us γ1 e1 σ I H L w _ fun vs I1 H1 L1 w1 s1 hb => ?_
    obtain ⟨I2, L2, w2, s2, hvs⟩ := resI_ok w1 hb e2
    refine ⟨by rw [hvs.length]; exact hz, fun p hp => ?_⟩
    obtain ⟨n, s⟩ := alloc (o := .tup vs) w2.sub hp
    exact k _ _ _ L2 ((w2.new n s).front (.tup (st_of upd_same) (hvs.mono n.i))) ((s1.trans s2).trans n.stp)
  · cases e
/-- a new thing of one's own at p -/
theorem WS.lay {p : Addr} {o : HO} (w : WS K γ σ I H L) (hp : H p = none) (ht : ∀ H', H' p = some o → Ow K I H' (.ref p) t [p]) : WS K (t :: γ) (some (.ref p) :: σ) I (upd H p o) (p :: L) ∧ Step I H L I (upd H p o) (p :: L) := by
  have hpL : p ∉ L := fun h => w.live p h hp
  refine ⟨⟨.cons (L1 := [p]) (ht _ upd_same) (w.env.keep (Ex.refl I) fun a h => upd_ne fun e => hpL (e ▸ h)), List.nodup_cons.mpr ⟨hpL, w.nd⟩, fun a h => ?_, fun a u e => ?_⟩, ⟨Ex.refl I, fun a u e _ => Ex.new hp a u e, fun a h => ?_, fun a u e => .inl e⟩⟩
  · rcases List.mem_cons.mp h with rfl | h
    · exact w.sub.back hp
    · exact w.fr a h
  · exact Ex.new hp a u (w.sub a u e)
  · rcases List.mem_cons.mp h with rfl | h
    · exact .inr hp
    · exact .inl h
/-- [a, b, ..], one's own -/
def eLst (bs : List (Option Nat)) (g : List T → Option (List T × List T)) : List T → Option (T × List T) := fun γ => (g γ).bind fun q => (resI bs q.1).bind fun xs => if xs.length ≤ sizeLine then some (.lst xs, q.2) else none
theorem ef_lst {tr : TA} {bs : List (Option Nat)} {g : List T → Option (List T × List T)} (hg : EfA K tr bs g) : Ef K (tLst tr) (eLst bs g) := fun γ t γ' e σ I H L w Q k => by
  unfold eLst at e
  obtain ⟨⟨us, γ1⟩, e1, e⟩ := Option.bind_eq_some_iff.mp e
  obtain ⟨xs, e2, e⟩ := Option.bind_eq_some_iff.mp e
  split at e
  · rename_i hz
    cases e
    refine hg γ us γ1 e1 σ I H L w _ fun vs I1 H1 L1 w1 s1 hb => ?_
    obtain ⟨I2, L2, w2, s2, hvs⟩ := resI_ok w1 hb e2
    refine ⟨by rw [hvs.length]; exact hz, fun p hp => ?_⟩
    obtain ⟨w3, s3⟩ := w2.lay (o := .lst vs) (t := .lst xs) hp fun H' h => .lst h hvs
    exact k _ _ _ _ w3 ((s1.trans s2).trans s3)
  · cases e
/-- list(e), one's own -/
def eList (f : List T → Option D) : List T → Option (T × List T) := fun γ => (f γ).bind fun x => (items x).map fun xs => (.lst xs, γ)
theorem ef_list {f : List T → Option D} (hf : Cu K ta f) : Ef K (tCB (rListOf K) (tCons ta tNil)) (eList f) := fun γ t γ' e σ I H L w Q k => by
  unfold eList at e
  obtain ⟨x, e1, e⟩ := Option.bind_eq_some_iff.mp e
  cases e2 : items x with
  | none => simp [e2] at e
  | some xs =>
    simp [e2] at e
    obtain ⟨rfl, rfl⟩ := e
    refine hf γ x e1 σ I H L w _ fun v I1 H1 n1 s1 hv => ?_
    obtain ⟨a, vs, rfl, h1, h2⟩ := hv.seq s1 e2
    refine ⟨a, vs, rfl, h1, fun p hp => ?_⟩
    have w1 := w.new n1 s1
    obtain ⟨w3, s3⟩ := w1.lay (o := .lst vs) (t := .lst xs) hp fun H' h => .lst h h2
    exact k _ _ _ _ w3 (n1.stp.trans s3)
/-- {} -/
def eDic : List T → Option (T × List T) := fun γ => some (.dic [] [], γ)
theorem ef_dic : Ef K tDNewK eDic := fun γ t γ' e σ I H L w Q k => by
  cases e
  intro p hp
  obtain ⟨w3, s3⟩ := w.lay (o := .dK []) (t := .dic [] []) hp fun H' h => .dic (L := []) h rfl .nil
  exact k _ _ _ _ w3 s3
/-- a slot's own thing frozen: its value -/
def eFrz (i : Nat) : List T → Option (T × List T) := fun γ => (γ[i]?).bind fun t => t.toD.map fun x => (.d x, γ.set i (.d x))
theorem WS.stepSlot {i : Nat} (w : WS K γ σ I H L) (h : γ[i]? = some t) (ht : t ≠ .em) : ∃ v, σ[i]? = some (some v) ∧ ∃ Li, Ow K I H v t Li ∧ Li.Nodup ∧ (∀ a ∈ Li, I a = none) ∧
    ∀ (I' H' : Hp) (t' : T) (Li' : List Addr), Step I H Li I' H' Li' → Li'.Nodup → (∀ a ∈ Li', I' a = none) → Ex I' H' → Ow K I' H' v t' Li' → ∃ L', WS K (γ.set i t') σ I' H' L' ∧ Step I H L I' H' L' := by
  obtain ⟨v0, v, t0, h1, h2, h3, Li, h4, h5, h6, h7⟩ := w.place (i := i) (p := []) (u := t) (by unfold gAt; rw [h]; rfl) ht
  cases h3
  rw [h] at h2
  cases h2
  refine ⟨_, h1, Li, h4, h5, h6, fun I' H' t' Li' a b c d e => ?_⟩
  have := h7 I' H' t' Li' a b c d e
  unfold gPut at this
  rw [h] at this
  exact this
theorem WS.frzSlot {i : Nat} (w : WS K γ σ I H L) (h : γ[i]? = some t) (e : t.toD = some x) : ∃ v I' L', σ[i]? = some (some v) ∧ Is K I' v x ∧ WS K (γ.set i (.d x)) σ I' H L' ∧ Step I H L I' H L' := by
  have ht : t ≠ .em := fun z => by subst z; simp [T.toD] at e
  obtain ⟨v, h1, Li, h2, h3, h4, h5⟩ := w.stepSlot h ht
  obtain ⟨I', f, q⟩ := h2.frz e h3 h4 w.sub
  obtain ⟨L', w', s'⟩ := h5 I' H (.d x) [] ⟨f.i, fun _ _ h _ => h, fun a h => by simp at h, fun a o h => (f.n a o h).elim .inl fun z => .inr (.inl z)⟩ List.nodup_nil (fun a h => by simp at h) f.s (.d q)
  exact ⟨v, I', L', h1, q, w', s'⟩
theorem ef_frz (i : Nat) : Ef K (tVar i) (eFrz i) := fun γ t γ' e σ I H L w Q k => by
  unfold eFrz at e
  obtain ⟨u, e1, e⟩ := Option.bind_eq_some_iff.mp e
  cases e2 : u.toD with
  | none => simp [e2] at e
  | some x =>
    simp [e2] at e
    obtain ⟨rfl, rfl⟩ := e
    obtain ⟨v, I', L', h1, h2, w', s'⟩ := w.frzSlot e1 e2
    exact ⟨v, h1, k v I' H L' (w'.front h2) s'⟩
def eTest (f : List T → Option (T × List T)) : List T → Option (Bool × List T) := fun γ => (f γ).bind fun q => match q.1 with
  | .d (.bl b) => some (b, q.2)
  | _ => none
theorem et_of {f : List T → Option (T × List T)} {b : Bool} (e : eTest f γ = some (b, γ')) : f γ = some (.d (.bl b), γ') := by
  unfold eTest at e
  obtain ⟨⟨t, γ1⟩, e1, e⟩ := Option.bind_eq_some_iff.mp e
  split at e
  · rename_i b' h
    cases e
    dsimp only at h
    subst h
    exact e1
  · cases e
theorem eft_test {f : List T → Option (T × List T)} (hf : Ef K te f) : EfT K (tTest te) (eTest f) := fun γ b γ' e σ I H L w Q k => hf γ _ _ (et_of e) σ I H L w _ fun v I' H' L' w' s => by
  obtain ⟨L2, w2, s2, h2⟩ := w'.tail
  obtain ⟨rfl, v', e1, hv⟩ := h2 _ rfl
  cases e1
  cases hv
  exact ⟨b, rfl, k I' H' _ w2 s⟩
theorem eft_b {f : List T → Option (T × List T)} (hf : Ef K te f) : EfT K (tB te) (eTest f) := fun γ b γ' e σ I H L w Q k => hf γ _ _ (et_of e) σ I H L w _ fun v I' H' L' w' s => by
  obtain ⟨L2, w2, s2, h2⟩ := w'.tail
  obtain ⟨rfl, v', e1, hv⟩ := h2 _ rfl
  cases e1
  cases hv
  exact ⟨b, rfl, k I' H' _ w2 s⟩
def eNot (p : List T → Option (Bool × List T)) : List T → Option (Bool × List T) := fun γ => (p γ).map fun q => (!q.1, q.2)
theorem eft_not {p : List T → Option (Bool × List T)} (hp : EfT K tt p) : EfT K (tNot tt) (eNot p) := fun γ b γ' e σ I H L w Q k => by
  unfold eNot at e
  cases e1 : p γ with
  | none => rw [e1] at e; cases e
  | some q =>
    rw [e1] at e
    cases e
    exact hp γ _ _ e1 σ I H L w _ fun I' H' L' w' s => k I' H' L' w' s
def eAnd (p q : List T → Option (Bool × List T)) : List T → Option (Bool × List T) := fun γ => (p γ).bind fun a => if a.1 = true then q a.2 else some (false, a.2)
def eOr (p q : List T → Option (Bool × List T)) : List T → Option (Bool × List T) := fun γ => (p γ).bind fun a => if a.1 = true then some (true, a.2) else q a.2
theorem eft_or {p q : List T → Option (Bool × List T)} (hp : EfT K tt p) (hq : EfT K tu q) : EfT K (tOr tt tu) (eOr p q) := fun γ b γ' e σ I H L w Q k => by
  unfold eOr at e
  obtain ⟨⟨a, γ1⟩, e1, e2⟩ := Option.bind_eq_some_iff.mp e
  refine hp γ a γ1 e1 σ I H L w _ fun I1 H1 L1 w1 s1 => ?_
  cases a with
  | false =>
    show tu σ H1 Q
    exact hq γ1 b γ' (by simpa using e2) σ I1 H1 L1 w1 Q fun I2 H2 L2 w2 s2 => k I2 H2 L2 w2 (s1.trans s2)
  | true =>
    show Q true H1
    simp at e2
    obtain ⟨rfl, rfl⟩ := e2
    exact k I1 H1 L1 w1 s1
/-- and, or as values -/
def eAndV (f g : List T → Option (T × List T)) : List T → Option (T × List T) := fun γ => (f γ).bind fun q => match q.1 with
  | .d (.bl true) => (g q.2).bind fun r => match r.1 with
    | .d (.bl b) => some (.d (.bl b), r.2)
    | _ => none
  | .d (.bl false) => some (.d (.bl false), q.2)
  | _ => none
theorem ef_andV {f g : List T → Option (T × List T)} (hf : Ef K ta f) (hg : Ef K tb g) : Ef K (tAndV ta tb) (eAndV f g) := fun γ t γ' e σ I H L w Q k => by
  unfold eAndV at e
  obtain ⟨⟨t1, γ1⟩, e1, e⟩ := Option.bind_eq_some_iff.mp e
  refine hf γ t1 γ1 e1 σ I H L w _ fun v I1 H1 L1 w1 s1 => ?_
  obtain ⟨L2, w2, s2, h2⟩ := w1.tail
  dsimp only at e
  split at e
  · obtain ⟨rfl, v', ev, hv⟩ := h2 _ rfl
    cases ev
    cases hv
    refine ⟨true, rfl, ?_⟩
    show tb σ H1 Q
    obtain ⟨⟨t3, γ3⟩, e3, e⟩ := Option.bind_eq_some_iff.mp e
    dsimp only at e
    split at e
    · cases e
      exact hg γ1 _ _ e3 σ I1 H1 _ w2 Q fun v I3 H3 L3 w3 s3 => k v I3 H3 L3 w3 (s1.trans s3)
    · cases e
  · obtain ⟨rfl, v', ev, hv⟩ := h2 _ rfl
    cases ev
    cases hv
    cases e
    exact ⟨false, rfl, k _ I1 H1 _ w1 s1⟩
  · cases e
def eOrV (f g : List T → Option (T × List T)) : List T → Option (T × List T) := fun γ => (f γ).bind fun q => match q.1 with
  | .d (.bl false) => (g q.2).bind fun r => match r.1 with
    | .d (.bl b) => some (.d (.bl b), r.2)
    | _ => none
  | .d (.bl true) => some (.d (.bl true), q.2)
  | _ => none
def eNotV (f : List T → Option (T × List T)) : List T → Option (T × List T) := fun γ => (f γ).bind fun q => match q.1 with
  | .d (.bl b) => some (.d (.bl (!b)), q.2)
  | _ => none
def eIf (p : List T → Option (Bool × List T)) (f g : List T → Option (T × List T)) : List T → Option (T × List T) := fun γ => (p γ).bind fun a => if a.1 = true then f a.2 else g a.2
end
end FD
namespace FD
open PySem PySem.Spec PyProof.Rows L2
inductive RF where
  | ret (r : T) (post : List T) | exc (C : Addr) (fs : List (Str × D)) (post : List T)
abbrev FN := List T → Option RF
/-- an exception's own dict -/
inductive IsX (K : PySem.W.Frag) (I : Hp) : List (Str × V) → List (Str × D) → Prop
  | nil : IsX K I [] []
  | cons {f : Str} {v : V} {x : D} {kvs : List (Str × V)} {fs : List (Str × D)} : Is K I v x → IsX K I kvs fs → IsX K I ((f, v) :: kvs) ((f, x) :: fs)
def XAt (K : PySem.W.Frag) (I H : Hp) (L : List Addr) (d : Addr) (fs : List (Str × D)) : Prop := ∃ kvs, H d = some (.xd kvs) ∧ d ∉ L ∧ I d = none ∧ IsX K I kvs fs
def PostF (K : PySem.W.Frag) (vs : List V) (I H : Hp) (L : List Addr) (Q : VK) (E : XK) : RF → Prop
  | .ret r post => ∀ v I' H' L', WS K (r :: post) (some v :: vs.map some) I' H' L' → Step I H L I' H' L' → Q v H'
  | .exc C fs post => ∀ d I' H' L', WS K post (vs.map some) I' H' L' → Step I H L I' H' L' → XAt K I' H' L' d fs → E (.ref C) (some d) H'
def spF (K : PySem.W.Frag) (g : FN) : Sp := fun vs H Q E => ∃ pre out I L, g pre = some out ∧ WS K pre (vs.map some) I H L ∧ PostF K vs I H L Q E out
def takeArgs : List (Option Nat) → List T → List T → Option (List T × List T)
  | [], [], γ => some ([], γ)
  | none :: bs, t :: ts, γ => (takeArgs bs ts γ).map fun q => (t :: q.1, q.2)
  | some i :: bs, _ :: ts, γ => match γ[i]? with
    | some (.d x) => (takeArgs bs ts γ).map fun q => (.d x :: q.1, q.2)
    | some .em => none
    | some t => (takeArgs bs ts (γ.set i .em)).map fun q => (t :: q.1, q.2)
    | none => none
  | _, _, _ => none
def backArgs : List (Option Nat) → List T → List T → List T → Option (List T)
  | [], [], [], γ => some γ
  | none :: bs, _ :: ps, _ :: qs, γ => backArgs bs ps qs γ
  | some _ :: bs, .d _ :: ps, _ :: qs, γ => backArgs bs ps qs γ
  | some i :: bs, _ :: ps, q :: qs, γ => backArgs bs ps qs (γ.set i q)
  | _, _, _, _ => none
section
variable {K : PySem.W.Frag} {ta tb tc te to : TE} {tt tu : TT} {I I' H H' : Hp} {γ γ' : List T} {σ : Sg} {L : List Addr} {t : T} {v : V} {x : D}
theorem Bor.len : ∀ {bs : List (Option Nat)} {vs : List V}, Bor σ bs vs → vs.length = bs.length
  | [], _, h => by cases (show _ = [] from h); rfl
  | none :: bs, _, ⟨v, ws, h, r⟩ => by subst h; simp [Bor.len r]
  | some i :: bs, _, ⟨v, ws, h, _, r⟩ => by subst h; simp [Bor.len r]
theorem IsX.mono (e : Ex I I') : ∀ {kvs : List (Str × V)} {fs : List (Str × D)}, IsX K I kvs fs → IsX K I' kvs fs
  | _, _, .nil => .nil
  | _, _, .cons a b => .cons (a.mono e) (b.mono e)
theorem set_app {α : Type} (a b : List α) (i : Nat) (x : α) : (a ++ b).set (a.length + i) x = a ++ b.set i x := by
  rw [List.set_append_right _ _ (by omega)]
  congr 2
  omega
theorem get_app {α : Type} (a b : List α) (i : Nat) : (a ++ b)[a.length + i]? = b[i]? := by
  rw [List.getElem?_append_right (by omega)]
  congr 1
  omega
/-- a slot's tree to the front -/
theorem WS.out {i : Nat} {ts : List T} {ws : Sg} (w : WS K (ts ++ γ) (ws ++ σ) I H L) (hl : ts.length = ws.length) (h : γ[i]? = some t) (ht : t ≠ .em) : ∃ v, σ[i]? = some (some v) ∧ ∃ L', WS K (t :: (ts ++ γ.set i .em)) (some v :: (ws ++ σ)) I H L' ∧ Step I H L I H L' := by
  obtain ⟨v, h1, L1, Li, L2, rfl, h2, h3⟩ := w.env.get (i := ts.length + i) (t := t) (by rw [get_app]; exact h) ht
  have h1' : σ[i]? = some (some v) := by rw [hl, get_app] at h1; exact h1
  have e := h3 I H .em v [] (Ex.refl I) (fun _ _ => rfl) (.em v)
  rw [set_app, FD.set_self h1] at e
  refine ⟨v, h1', Li ++ (L1 ++ ([] ++ L2)), ⟨.cons h2 e, ?_, fun a ha => w.fr a (by simp at ha ⊢; rcases ha with ha | ha | ha <;> simp [ha]), w.sub⟩, ⟨Ex.refl I, fun _ _ h _ => h, fun a ha => .inl (by simp at ha ⊢; rcases ha with ha | ha | ha <;> simp [ha]), fun _ _ h => .inl h⟩⟩
  have nd := w.nd
  rw [List.nil_append]
  exact (List.perm_append_comm_assoc L1 Li L2).nodup_iff.mp nd
theorem take_ok : ∀ {bs : List (Option Nat)} {ts pre : List T} {vs : List V} {γ γ1 : List T} {L : List Addr}, WS K (ts ++ γ) (vs.map some ++ σ) I H L → Bor σ bs vs → takeArgs bs ts γ = some (pre, γ1) → ∃ L', WS K (pre ++ γ1) (vs.map some ++ σ) I H L' ∧ Step I H L I H L' ∧ pre.length = vs.length ∧ γ1.length = γ.length
  | [], [], pre, vs, γ, γ1, L, w, hb, e => by
    cases (show vs = [] from hb)
    cases e
    exact ⟨L, w, Step.refl I H L, rfl, rfl⟩
  | [], _ :: _, _, _, _, _, _, _, _, e => by simp [takeArgs] at e
  | none :: _, [], _, _, _, _, _, _, _, e => by simp [takeArgs] at e
  | some _ :: _, [], _, _, _, _, _, _, _, e => by simp [takeArgs] at e
  | none :: bs, t :: ts, pre, vs, γ, γ1, L, w, hb, e => by
    unfold takeArgs at e
    cases e2 : takeArgs bs ts γ with
    | none => simp [e2] at e
    | some q =>
      obtain ⟨p2, γ2⟩ := q
      simp [e2] at e
      obtain ⟨rfl, rfl⟩ := e
      obtain ⟨v, ws, rfl, hb⟩ := hb
      obtain ⟨M1, M2, rfl, w2, hold⟩ := WS.hold (σ := ws.map some ++ σ) w
      obtain ⟨L3, w3, s3, hl, hl2⟩ := take_ok w2 hb e2
      obtain ⟨w4, s4⟩ := hold w3 s3
      exact ⟨_, w4, s4, by simp [hl], hl2⟩
  | some i :: bs, t :: ts, pre, vs, γ, γ1, L, w, hb, e => by
    obtain ⟨v, ws, rfl, hi, hb⟩ := hb
    obtain ⟨L0, w0, s0, _⟩ := WS.tail (σ := ws.map some ++ σ) w
    have bl := hb.len
    unfold takeArgs at e
    split at e
    · rename_i x hx
      cases e2 : takeArgs bs ts γ with
      | none => simp [e2] at e
      | some q =>
        obtain ⟨p2, γ2⟩ := q
        simp [e2] at e
        obtain ⟨rfl, rfl⟩ := e
        have hts : ts.length = (ws.map some : Sg).length := by
          have : ∀ {bs : List (Option Nat)} {ts : List T} {γ : List T} {q : List T × List T}, takeArgs bs ts γ = some q → ts.length = bs.length := by
            intro bs
            induction bs with
            | nil => intro ts γ q e; cases ts with | nil => rfl | cons => simp [takeArgs] at e
            | cons b bs ih =>
              intro ts γ q e
              cases ts with
              | nil => cases b <;> simp [takeArgs] at e
              | cons t ts =>
                cases b with
                | none =>
                  simp [takeArgs] at e
                  obtain ⟨_, _, e, _⟩ := e
                  simp [ih e]
                | some i =>
                  simp only [takeArgs] at e
                  split at e
                  · simp at e; obtain ⟨_, _, e, _⟩ := e; simp [ih e]
                  · cases e
                  · simp at e; obtain ⟨_, _, e, _⟩ := e; simp [ih e]
                  · cases e
          rw [List.length_map, bl]
          exact this e2
        have hv : Is K I v x := by
          obtain ⟨v', h1, _, _, _, _, h2, _⟩ := w0.env.get (i := ts.length + i) (t := .d x) ((get_app ts γ i).trans hx) (fun z => nomatch z)
          rw [hts, get_app, hi] at h1
          cases h1
          cases h2 with
          | d h2 => exact h2
        obtain ⟨L3, w3, s3, hl, hl2⟩ := take_ok w0 hb e2
        exact ⟨L3, w3.front hv, s0.trans s3, by simp [hl], hl2⟩
    · cases e
    · rename_i u nd ne hx
      have hne : u ≠ .em := fun z => ne z
      cases e2 : takeArgs bs ts (γ.set i .em) with
      | none => simp [e2] at e
      | some q =>
        obtain ⟨p2, γ2⟩ := q
        simp [e2] at e
        obtain ⟨rfl, rfl⟩ := e
        have hts : ts.length = (ws.map some : Sg).length := by
          have := w0.env.len
          have h2 : ∀ {bs : List (Option Nat)} {ts : List T} {γ : List T} {q : List T × List T}, takeArgs bs ts γ = some q → ts.length = bs.length := by
            intro bs
            induction bs with
            | nil => intro ts γ q e; cases ts with | nil => rfl | cons => simp [takeArgs] at e
            | cons b bs ih =>
              intro ts γ q e
              cases ts with
              | nil => cases b <;> simp [takeArgs] at e
              | cons t ts =>
                cases b with
                | none =>
                  simp [takeArgs] at e
                  obtain ⟨_, _, e, _⟩ := e
                  simp [ih e]
                | some i =>
                  simp only [takeArgs] at e
                  split at e
                  · simp at e; obtain ⟨_, _, e, _⟩ := e; simp [ih e]
                  · cases e
                  · simp at e; obtain ⟨_, _, e, _⟩ := e; simp [ih e]
                  · cases e
          rw [List.length_map, bl]
          exact h2 e2
        obtain ⟨v', h1, L1, w1, s1⟩ := w0.out hts hx hne
        rw [hi] at h1
        cases h1
        obtain ⟨M1, M2, rfl, w2, hold⟩ := WS.hold (σ := ws.map some ++ σ) w1
        obtain ⟨L3, w3, s3, hl, hl2⟩ := take_ok w2 hb e2
        obtain ⟨w4, s4⟩ := hold w3 s3
        exact ⟨_, w4, (s0.trans s1).trans s4, by simp [hl], by simpa using hl2⟩
    · cases e
theorem EnvT.split : ∀ {pre : List T} {vs : Sg} {L : List Addr}, pre.length = vs.length → EnvT K I H (pre ++ γ) (vs ++ σ) L → ∃ L1 L2, L = L1 ++ L2 ∧ EnvT K I H pre vs L1 ∧ EnvT K I H γ σ L2
  | [], [], L, _, e => ⟨[], L, rfl, .nil, e⟩
  | [], _ :: _, _, h, _ => by simp at h
  | _ :: _, [], _, h, _ => by simp at h
  | t :: pre, v :: vs, L, h, e => by
    cases e with
    | em _ e =>
      obtain ⟨L1, L2, rfl, a, b⟩ := EnvT.split (by simpa using h) e
      exact ⟨L1, L2, rfl, .em _ a, b⟩
    | @cons _ _ _ _ M1 M2 p e =>
      obtain ⟨L1, L2, rfl, a, b⟩ := EnvT.split (by simpa using h) e
      exact ⟨M1 ++ L1, L2, by simp, .cons p a, b⟩
theorem EnvT.join : ∀ {pre : List T} {vs : Sg} {L1 L2 : List Addr}, EnvT K I H pre vs L1 → EnvT K I H γ σ L2 → EnvT K I H (pre ++ γ) (vs ++ σ) (L1 ++ L2)
  | _, _, _, _, .nil, b => b
  | _, _, _, _, .em x a, b => .em x (EnvT.join a b)
  | _, _, _, _, .cons (L1 := M1) p a, b => by
    rw [List.append_assoc]
    exact .cons p (EnvT.join a b)
/-- what stands beside a part that steps -/
theorem WS.apart {pre : List T} {vs : Sg} (w : WS K (pre ++ γ) (vs ++ σ) I H L) (hl : pre.length = vs.length) : ∃ L1 L2, L = L1 ++ L2 ∧ WS K pre vs I H L1 ∧ ∀ {pre' : List T} {vs' : Sg} {I' H' : Hp} {L1' : List Addr}, WS K pre' vs' I' H' L1' → Step I H L1 I' H' L1' → WS K (pre' ++ γ) (vs' ++ σ) I' H' (L1' ++ L2) ∧ Step I H (L1 ++ L2) I' H' (L1' ++ L2) := by
  obtain ⟨L1, L2, rfl, e1, e2⟩ := w.env.split hl
  have nd := List.nodup_append.mp w.nd
  refine ⟨L1, L2, rfl, ⟨e1, nd.1, fun a h => w.fr a (by simp [h]), w.sub⟩, fun {pre' vs' I' H' L1'} w' s => ?_⟩
  have lv : ∀ a ∈ L2, H a ≠ none := fun a h => e2.live a h
  have out : ∀ a ∈ L2, a ∉ L1 := fun a h q => nd.2.2 a q a h rfl
  have kp : ∀ a ∈ L2, H' a = H a := fun a h => by
    cases e : H a with
    | none => exact absurd e (lv a h)
    | some o => exact s.keep a o e (out a h)
  have ap : ∀ a ∈ L2, a ∉ L1' := fun a h q => (s.l a q).elim (out a h) (lv a h)
  refine ⟨⟨w'.env.join (e2.keep s.i kp), List.nodup_append.mpr ⟨w'.nd, nd.2.1, fun a h b hb e => ap b hb (e ▸ h)⟩, fun a h => ?_, w'.sub⟩, ⟨s.i, fun a o h q => s.keep a o h fun z => q (by simp [z]), fun a h => ?_, fun a o h => ?_⟩⟩
  · rcases List.mem_append.mp h with h | h
    · exact w'.fr a h
    · cases e : I' a with
      | none => rfl
      | some o =>
        rcases s.n a o e with q | q | q
        · rw [w.fr a (by simp [h])] at q; cases q
        · exact absurd q (out a h)
        · exact absurd q (lv a h)
  · rcases List.mem_append.mp h with h | h
    · exact (s.l a h).elim (fun z => .inl (by simp [z])) .inr
    · exact .inl (by simp [h])
  · rcases s.n a o h with q | q | q
    · exact .inl q
    · exact .inr (.inl (by simp [q]))
    · exact .inr (.inr q)
theorem back_ok : ∀ {bs : List (Option Nat)} {pre post : List T} {vs : List V} {γ γ2 : List T} {L : List Addr}, WS K (post ++ γ) (vs.map some ++ σ) I H L → Bor σ bs vs → post.length = vs.length → backArgs bs pre post γ = some γ2 → ∃ L', WS K γ2 σ I H L' ∧ Step I H L I H L'
  | [], [], [], vs, γ, γ2, L, w, hb, hl, e => by
    cases (show vs = [] from hb)
    cases e
    exact ⟨L, w, Step.refl I H L⟩
  | none :: bs, p :: ps, q :: qs, vs, γ, γ2, L, w, hb, hl, e => by
    obtain ⟨v, ws, rfl, hb⟩ := hb
    obtain ⟨L1, w1, s1, _⟩ := WS.tail (σ := ws.map some ++ σ) w
    obtain ⟨L2, w2, s2⟩ := back_ok (pre := ps) w1 hb (by simpa using hl) (by simpa [backArgs] using e)
    exact ⟨L2, w2, s1.trans s2⟩
  | some i :: bs, p :: ps, q :: qs, vs, γ, γ2, L, w, hb, hl, e => by
    obtain ⟨v, ws, rfl, hi, hb⟩ := hb
    have hlq : qs.length = ws.length := by simpa using hl
    have key : backArgs bs ps qs (γ.set i q) = some γ2 → ∃ L', WS K γ2 σ I H L' ∧ Step I H L I H L' := fun e => by
      by_cases hig : i < γ.length
      · obtain ⟨L1, w1, s1⟩ : ∃ L', WS K ((qs ++ γ).set (qs.length + i) q) ((ws.map some ++ σ).set (qs.length + i) (some v)) I H L' ∧ Step I H L I H L' := by
          by_cases hq : q = .em
          · subst hq
            obtain ⟨L0, w0, s0, _⟩ := WS.tail (σ := ws.map some ++ σ) w
            obtain ⟨L1, w1, s1⟩ := w0.setE (some v) (qs.length + i)
            exact ⟨L1, w1, s0.trans s1⟩
          · exact WS.setN (σ := ws.map some ++ σ) w (by simp; omega) hq
        rw [set_app] at w1
        have e2 : (ws.map some ++ σ).set (qs.length + i) (some v) = ws.map some ++ σ := by
          rw [show qs.length = (ws.map some : Sg).length by simp [hlq], set_app, FD.set_self hi]
        rw [e2] at w1
        obtain ⟨L2, w2, s2⟩ := back_ok (pre := ps) w1 hb hlq e
        exact ⟨L2, w2, s1.trans s2⟩
      · rw [List.set_eq_of_length_le (by omega)] at e
        obtain ⟨L1, w1, s1, _⟩ := WS.tail (σ := ws.map some ++ σ) w
        obtain ⟨L2, w2, s2⟩ := back_ok (pre := ps) w1 hb hlq e
        exact ⟨L2, w2, s1.trans s2⟩
    cases p with
    | d x =>
      obtain ⟨L1, w1, s1, _⟩ := WS.tail (σ := ws.map some ++ σ) w
      obtain ⟨L2, w2, s2⟩ := back_ok (pre := ps) w1 hb hlq (by simpa [backArgs] using e)
      exact ⟨L2, w2, s1.trans s2⟩
    | em => exact key (by simpa [backArgs] using e)
    | lst => exact key (by simpa [backArgs] using e)
    | dic => exact key (by simpa [backArgs] using e)
    | obj => exact key (by simpa [backArgs] using e)
  | [], _ :: _, _, _, _, _, _, _, _, _, e => by simp [backArgs] at e
  | [], [], _ :: _, _, _, _, _, _, _, _, e => by simp [backArgs] at e
  | none :: _, [], _, _, _, _, _, _, _, _, e => by simp [backArgs] at e
  | none :: _, _ :: _, [], _, _, _, _, _, _, _, e => by simp [backArgs] at e
  | some _ :: _, [], _, _, _, _, _, _, _, _, e => by simp [backArgs] at e
  | some _ :: _, p :: _, [], _, _, _, _, _, _, _, e => by cases p <;> simp [backArgs] at e
/-- the heart of a call: from arguments to the answer -/
def callF (g : FN) (bs : List (Option Nat)) (ts γ : List T) : Option (T × List T) := (takeArgs bs ts γ).bind fun p => match g p.1 with
  | some (.ret r post) => if post.length = p.1.length then (backArgs bs p.1 post p.2).map fun γ2 => (r, γ2) else none
  | _ => none
theorem call_ok {g : FN} {bs : List (Option Nat)} {ts : List T} {vs : List V} {r : T} {γ2 : List T} (w : WS K (ts ++ γ) (vs.map some ++ σ) I H L) (hb : Bor σ bs vs) (e : callF g bs ts γ = some (r, γ2)) {Q : VK} {E : XK} (k : ∀ v I' H' L', WS K (r :: γ2) (some v :: σ) I' H' L' → Step I H L I' H' L' → Q v H') : spF K g vs H Q E := by
  unfold callF at e
  obtain ⟨⟨pre, γ1⟩, e1, e⟩ := Option.bind_eq_some_iff.mp e
  obtain ⟨L1, w1, s1, hl, hl2⟩ := take_ok w hb e1
  dsimp only at e
  split at e
  · rename_i r' post hg
    split at e
    · rename_i hp
      cases e3 : backArgs bs pre post γ1 with
      | none => simp [e3] at e
      | some γ3 =>
        simp [e3] at e
        obtain ⟨rfl, rfl⟩ := e
        obtain ⟨M1, M2, rfl, wp, join⟩ := w1.apart (by simpa using hl)
        refine ⟨pre, _, I, M1, hg, wp, fun v I' H' L' w' s' => ?_⟩
        obtain ⟨w3, s3⟩ := join w' s'
        obtain ⟨N1, N2, hN, w4, hold⟩ := WS.hold (σ := vs.map some ++ σ) w3
        obtain ⟨L5, w5, s5⟩ := back_ok (pre := pre) w4 hb (by omega) e3
        obtain ⟨w6, s6⟩ := hold w5 s5
        rw [← hN] at s6
        exact k v I' H' _ w6 ((s1.trans s3).trans s6)
    · cases e
  · cases e
/-- f(a, ..) -/
def eCall (g : FN) (bs : List (Option Nat)) (a : List T → Option (List T × List T)) : List T → Option (T × List T) := fun γ => (a γ).bind fun q => callF g bs q.1 q.2
theorem ef_call {g : FN} {bs : List (Option Nat)} {a : List T → Option (List T × List T)} {tr : TA} {E : XK} (ha : EfA K tr bs a) : Ef K (tCall (spF K g) [] E tr) (eCall g bs a) := fun γ t γ' e σ I H L w Q k => by
  unfold eCall at e
  obtain ⟨⟨ts, γ1⟩, e1, e⟩ := Option.bind_eq_some_iff.mp e
  refine ha γ ts γ1 e1 σ I H L w _ fun vs I1 H1 L1 w1 s1 hb => ?_
  show spF K g (vs ++ []) H1 Q E
  rw [List.append_nil]
  exact call_ok w1 hb e fun v I' H' L' w' s' => k v I' H' L' w' (s1.trans s')
/-- data alone: a pure call -/
def pCall (g : FN) (a : List T → Option (List D)) : List T → Option D := fun γ => (a γ).bind fun xs => match g (xs.map .d) with
  | some (.ret r _) => r.toD
  | _ => none
theorem env_ds : ∀ {xs : List D} {vs : List V}, IsA K I vs xs → EnvT K I H (xs.map .d) (vs.map some) []
  | [], _, h => by cases h; exact .nil
  | x :: xs, _, h => by
    cases h with
    | cons h1 h2 => exact .cons (L1 := []) (.d h1) (env_ds h2)
theorem spF_pure {g : FN} {xs : List D} {vs : List V} {z : D} {r : T} {post : List T} {E : XK} (s : Ex I H) (hv : IsA K I vs xs) (e : g (xs.map .d) = some (.ret r post)) (hr : r.toD = some z) {Q : VK} (k : ∀ v I' H', New I H I' H' → Ex I' H' → Is K I' v z → Q v H') : spF K g vs H Q E :=
  ⟨_, _, I, [], e, ⟨env_ds hv, List.nodup_nil, fun a h => by simp at h, s⟩, fun v I' H' L' w' s' => by
    obtain ⟨I2, L2, w2, s2, h1⟩ := w'.frz hr
    exact k v I2 H' (s'.trans s2).toNew w2.sub h1⟩
theorem pu_call {g : FN} {a : List T → Option (List D)} {tr : TA} {E : XK} (ha : PuA K tr a) : Pu K (tCall (spF K g) [] E tr) (pCall g a) := fun γ z e σ I H L w Q k => by
  unfold pCall at e
  obtain ⟨xs, e1, e⟩ := Option.bind_eq_some_iff.mp e
  split at e
  · rename_i r post hg
    refine ha γ xs e1 σ I H L w _ fun vs I1 H1 n1 s1 hv => ?_
    show spF K g (vs ++ []) H1 Q E
    rw [List.append_nil]
    exact spF_pure s1 hv hg e fun v I' H' n s h => k v I' H' (n1.trans n) s h
  · cases e
end
end FD
namespace FD
open PySem PySem.Spec PyProof.Rows L2
def Agr (wr : List Nat) (σ σ' : Sg) : Prop := σ'.length = σ.length ∧ ∀ i, i ∉ wr → σ'[i]? = σ[i]?
theorem Agr.refl {wr : List Nat} (σ : Sg) : Agr wr σ σ := ⟨rfl, fun _ _ => rfl⟩
theorem Agr.trans {wr : List Nat} {a b c : Sg} (h : Agr wr a b) (g : Agr wr b c) : Agr wr a c := ⟨g.1.trans h.1, fun i hi => (g.2 i hi).trans (h.2 i hi)⟩
theorem Agr.mono {wr wr' : List Nat} {a b : Sg} (h : Agr wr a b) (s : ∀ i ∈ wr, i ∈ wr') : Agr wr' a b := ⟨h.1, fun i hi => h.2 i fun z => hi (s i z)⟩
theorem Agr.set {wr : List Nat} {σ : Sg} {i : Nat} {y : Option V} (h : i ∈ wr) : Agr wr σ (σ.set i y) := ⟨by simp, fun j hj => by
  rw [List.getElem?_set_ne (fun e => hj (by rw [← e]; exact h))]⟩
inductive O where
  | nx (γ : List T) | rt (r : T) (γ : List T) | bk (γ : List T) | ct (γ : List T) | xc (C : Addr) (fs : List (Str × D)) (γ : List T)
abbrev WX' := Value → Option Addr → Sg → Hp → Prop
def PostS (K : PySem.W.Frag) (wr : List Nat) (W : WX') (Dn : Ends) (σ : Sg) (I H : Hp) (L : List Addr) : O → Prop
  | .nx γ => ∀ σ' I' H' L', WS K γ σ' I' H' L' → Step I H L I' H' L' → Agr wr σ σ' → Dn.nx σ' H'
  | .bk γ => ∀ σ' I' H' L', WS K γ σ' I' H' L' → Step I H L I' H' L' → Agr wr σ σ' → Dn.bk σ' H'
  | .ct γ => ∀ σ' I' H' L', WS K γ σ' I' H' L' → Step I H L I' H' L' → Agr wr σ σ' → Dn.ct σ' H'
  | .rt r γ => ∀ v σ' I' H' L', WS K (r :: γ) (some v :: σ') I' H' L' → Step I H L I' H' L' → Agr wr σ σ' → Dn.rt v H'
  | .xc C fs γ => ∀ d σ' I' H' L', WS K γ σ' I' H' L' → Step I H L I' H' L' → Agr wr σ σ' → XAt K I' H' L' d fs → W (.ref C) (some d) σ' H'
theorem PostS.later {K : PySem.W.Frag} {wr : List Nat} {W : WX'} {Dn : Ends} {σ σ1 : Sg} {I H I1 H1 : Hp} {L L1 : List Addr} (s : Step I H L I1 H1 L1) (a : Agr wr σ σ1) : ∀ {o : O}, PostS K wr W Dn σ I H L o → PostS K wr W Dn σ1 I1 H1 L1 o
  | .nx _, p => fun σ' I' H' L' w g b => p σ' I' H' L' w (s.trans g) (a.trans b)
  | .bk _, p => fun σ' I' H' L' w g b => p σ' I' H' L' w (s.trans g) (a.trans b)
  | .ct _, p => fun σ' I' H' L' w g b => p σ' I' H' L' w (s.trans g) (a.trans b)
  | .rt _ _, p => fun v σ' I' H' L' w g b => p v σ' I' H' L' w (s.trans g) (a.trans b)
  | .xc _ _ _, p => fun d σ' I' H' L' w g b x => p d σ' I' H' L' w (s.trans g) (a.trans b) x
def RunS (K : PySem.W.Frag) (wr : List Nat) (W : WX') (ts : TS) (f : List T → Option O) : Prop := ∀ γ o, f γ = some o → ∀ σ I H L, WS K γ σ I H L → ∀ Dn : Ends, PostS K wr W Dn σ I H L o → ts Dn σ H
def RgS (K : PySem.W.Frag) (wr : List Nat) (g : TG) (f : D → List T → Option (List T)) : Prop := ∀ x γ γ', f x γ = some γ' → ∀ v σ I H L, WS K γ σ I H L → Is K I v x → ∀ Q : Sg → Hp → Prop, (∀ σ' L', WS K γ' σ' I H L' → Step I H L I H L' → Agr wr σ σ' → Q σ' H) → g v σ H Q
def RgsS (K : PySem.W.Frag) (wr : List Nat) (g : TGs) (f : List D → List T → Option (List T)) : Prop := ∀ xs γ γ', f xs γ = some γ' → ∀ vs σ I H L, WS K γ σ I H L → IsA K I vs xs → ∀ Q : Sg → Hp → Prop, (∀ σ' L', WS K γ' σ' I H L' → Step I H L I H L' → Agr wr σ σ' → Q σ' H) → g vs σ H Q
def gN (i : Nat) : D → List T → Option (List T) := fun x γ => some (γ.set i (.d x))
def gNl : List D → List T → Option (List T) := fun xs γ => match xs with
  | [] => some γ
  | _ => none
def gCn (f : D → List T → Option (List T)) (g : List D → List T → Option (List T)) : List D → List T → Option (List T) := fun xs γ => match xs with
  | x :: xs => (f x γ).bind fun γ1 => g xs γ1
  | [] => none
def gTp (n : Nat) (g : List D → List T → Option (List T)) : D → List T → Option (List T) := fun x γ => match x with
  | .tup ds => if ds.length = n then g ds γ else none
  | _ => none
section
variable {K : PySem.W.Frag} {wr : List Nat} {W : WX'} {ta tb tc te to : TE} {tt tu : TT} {ts tv : TS} {I I' H H' : Hp} {γ γ' : List T} {σ : Sg} {L : List Addr} {t : T} {v : V} {x : D}
theorem WS.setF (w : WS K (t :: γ) (some v :: σ) I H L) (i : Nat) : ∃ L', WS K (γ.set i t) (σ.set i (some v)) I H L' ∧ Step I H L I H L' := by
  by_cases hi : i < γ.length
  · by_cases ht : t = .em
    · subst ht
      obtain ⟨L0, w0, s0, _⟩ := w.tail
      obtain ⟨L1, w1, s1⟩ := w0.setE (some v) i
      exact ⟨L1, w1, s0.trans s1⟩
    · exact w.setN hi ht
  · obtain ⟨L0, w0, s0, _⟩ := w.tail
    have hl := w0.env.len
    rw [List.set_eq_of_length_le (by omega), List.set_eq_of_length_le (by omega)]
    exact ⟨L0, w0, s0⟩
theorem rg_n {i : Nat} (h : i ∈ wr) : RgS K wr (gName i) (gN i) := fun x γ γ' e v σ I H L w hv Q q => by
  cases e
  obtain ⟨L', w', s'⟩ := (w.front hv).setF i
  exact q _ L' w' s' (.set h)
theorem rgs_nil : RgsS K wr gNil gNl := fun xs γ γ' e vs σ I H L w hv Q q => by
  unfold gNl at e
  split at e
  · cases e
    cases hv
    exact ⟨rfl, q σ L w (Step.refl _ _ _) (.refl σ)⟩
  · cases e
theorem rgs_cons {g : TG} {gs : TGs} {f : D → List T → Option (List T)} {fs : List D → List T → Option (List T)} (h1 : RgS K wr g f) (h2 : RgsS K wr gs fs) : RgsS K wr (gCons g gs) (gCn f fs) := fun xs γ γ' e vs σ I H L w hv Q q => by
  unfold gCn at e
  split at e
  · obtain ⟨γ1, e1, e2⟩ := Option.bind_eq_some_iff.mp e
    cases hv with
    | cons hv1 hv2 =>
      exact ⟨_, _, rfl, h1 _ γ γ1 e1 _ σ I H L w hv1 _ fun σ1 L1 w1 s1 a1 => h2 _ γ1 γ' e2 _ σ1 I H L1 w1 hv2 _ fun σ2 L2 w2 s2 a2 => q σ2 L2 w2 (s1.trans s2) (a1.trans a2)⟩
  · cases e
theorem rg_tp {n : Nat} {gs : TGs} {fs : List D → List T → Option (List T)} (h : RgsS K wr gs fs) : RgS K wr (gTup K n gs) (gTp n fs) := fun x γ γ' e v σ I H L w hv Q q => by
  unfold gTp at e
  split at e
  · split at e
    · rename_i hn
      cases hv with
      | tup h1 h2 => exact ⟨_, _, rfl, w.sub.t h1, by rw [h2.length]; exact hn, h _ γ γ' e _ σ I H L w h2 Q q⟩
    · cases e
  · cases e
def ItS (K : PySem.W.Frag) (fz : Bool) (wi : TI) (f : List T → Option (List D)) : Prop := ∀ γ ds, f γ = some ds → ∀ σ I H L, WS K γ σ I H L → ∀ R : It → Hp → Prop,
  (∀ J I1 H1 (G : Hp → Prop) Y, New I H I1 H1 → Ex I1 H1 → (∀ H', Ex I1 H' → (fz = false → Ex H1 H') → G H') → Walk J ds.length G Y →
    (∀ i I2 H2 x H3, i < ds.length → Ex I1 I2 → Ex I2 H2 → Y i H2 x H3 → ∃ d I3, ds[i]? = some d ∧ New I2 H2 I3 H3 ∧ Ex I3 H3 ∧ Is K I3 x d) → R J H1) → wi σ H R
def Src (K : PySem.W.Frag) (fz : Bool) (te : TE) (f : List T → Option D) : Prop := match fz with
  | true => Pu K te f
  | false => Cu K te f
theorem Src.list {fz : Bool} {f : List T → Option D} (h : Src K fz te f) {ds : List D} (e : f γ = some (.lst ds)) (w : WS K γ σ I H L) {Q : VK} (k : ∀ a xs I' H', New I H I' H' → Ex I' H' → SqL K H' a xs → (∀ H2, Ex I' H2 → (fz = false → Ex H' H2) → SqL K H2 a xs) → IsA K I' xs ds → Q (.ref a) H') : te σ H Q := by
  cases fz with
  | true =>
    exact h γ _ e σ I H L w Q fun v I' H' n s hv => by
      cases hv with
      | lst h1 h2 => exact k _ _ I' H' n s (s.l h1) (fun H2 e _ => e.l h1) h2
  | false =>
    exact h γ _ e σ I H L w Q fun v I' H' n s hv => by
      obtain ⟨a, xs, rfl, h1, h2⟩ := hv.l s
      exact k _ _ I' H' n s h1 (fun H2 _ e => (e rfl).l h1) h2
theorem Src.tup {fz : Bool} {f : List T → Option D} (h : Src K fz te f) {ds : List D} (e : f γ = some (.tup ds)) (w : WS K γ σ I H L) {Q : VK} (k : ∀ a xs I' H', New I H I' H' → Ex I' H' → SqT K H' a xs → (∀ H2, Ex I' H2 → (fz = false → Ex H' H2) → SqT K H2 a xs) → IsA K I' xs ds → Q (.ref a) H') : te σ H Q := by
  cases fz with
  | true =>
    exact h γ _ e σ I H L w Q fun v I' H' n s hv => by
      cases hv with
      | tup h1 h2 => exact k _ _ I' H' n s (s.t h1) (fun H2 e _ => e.t h1) h2
  | false =>
    exact h γ _ e σ I H L w Q fun v I' H' n s hv => by
      obtain ⟨a, xs, rfl, h1, h2⟩ := hv.t s
      exact k _ _ I' H' n s h1 (fun H2 _ e => (e rfl).t h1) h2
theorem Src.str {fz : Bool} {f : List T → Option D} (h : Src K fz te f) {x : Str} (e : f γ = some (.str x)) (w : WS K γ σ I H L) {Q : VK} (k : ∀ I' H', New I H I' H' → Ex I' H' → Q (.str x) H') : te σ H Q := by
  cases fz with
  | true =>
    exact h γ _ e σ I H L w Q fun v I' H' n s hv => by
      cases hv
      exact k I' H' n s
  | false =>
    exact h γ _ e σ I H L w Q fun v I' H' n s hv => by
      obtain rfl := hv.s
      exact k I' H' n s
/-- a list's, a tuple's items, a text's signs -/
def walkD : D → Option (List D)
  | .lst ds => some ds
  | .tup ds => some ds
  | .str s => some (signs s)
  | _ => none
def iAnyF (f : List T → Option D) : List T → Option (List D) := fun γ => (f γ).bind walkD
theorem its_any {fz : Bool} {f : List T → Option D} (h : Src K fz te f) : ItS K fz (iAny K te) (iAnyF f) := fun γ ds e σ I H L w R k => by
  unfold iAnyF at e
  obtain ⟨y, e1, e2⟩ := Option.bind_eq_some_iff.mp e
  cases y <;> simp [walkD] at e2
  · rename_i s
    subst e2
    refine .inr (.inr (h.str e1 w fun I1 H1 n1 s1 => ?_))
    refine ⟨s, rfl, k _ I1 H1 (fun _ => True) _ n1 s1 (fun _ _ _ => trivial) (by simp only [signs, List.length_map, Array.length_toList]; exact walk_str) fun i I2 H2 x H3 hi e1 e2 y => ?_⟩
    obtain ⟨rfl, c, hc, rfl⟩ := y
    exact ⟨.str ⟨#[c]⟩, I2, by simp [signs, hc], New.refl I2 _, e2, .str _⟩
  · subst e2
    refine .inl (h.list e1 w fun a xs I1 H1 n1 s1 h1 hG h2 => ?_)
    have hl := h2.length
    refine ⟨a, rfl, ⟨xs, h1⟩, k _ I1 H1 (fun H' => SqL K H' a xs) (YAt xs) n1 s1 hG (hl ▸ walk_list) fun i I2 H2 x H3 hi e3 e4 y => ?_⟩
    obtain ⟨rfl, hx⟩ := y
    obtain ⟨d, hd, hv⟩ := h2.get hx
    exact ⟨d, I2, hd, New.refl I2 _, e4, hv.mono e3⟩
  · subst e2
    refine .inr (.inl (h.tup e1 w fun a xs I1 H1 n1 s1 h1 hG h2 => ?_))
    have hl := h2.length
    refine ⟨a, rfl, ⟨xs, h1⟩, k _ I1 H1 (fun H' => SqT K H' a xs) (YAt xs) n1 s1 hG (hl ▸ walk_tup) fun i I2 H2 x H3 hi e3 e4 y => ?_⟩
    obtain ⟨rfl, hx⟩ := y
    obtain ⟨d, hd, hv⟩ := h2.get hx
    exact ⟨d, I2, hd, New.refl I2 _, e4, hv.mono e3⟩
def iR1 (f : List T → Option D) : List T → Option (List D) := fun γ => (f γ).bind fun x => match x with
  | .int n => if -(2 ^ 62) ≤ n ∧ n < 2 ^ 62 then some (intsD 0 n.toNat) else none
  | _ => none
theorem its_rng1 {fz : Bool} {f : List T → Option D} (h : Pu K te f) : ItS K fz (iRng1 (tCons te tNil)) (iR1 f) := fun γ ds e σ I H L w R k => by
  unfold iR1 at e
  obtain ⟨y, e1, e2⟩ := Option.bind_eq_some_iff.mp e
  cases y <;> simp at e2
  obtain ⟨hn, rfl⟩ := e2
  rename_i n
  refine h γ _ e1 σ I H L w _ fun v I1 H1 n1 s1 hv => ?_
  cases hv
  refine ⟨n, rfl, hn.1, hn.2, k _ I1 H1 (fun _ => True) (YFn fun i => .int (0 + (i : Nat))) n1 s1 (fun _ _ _ => trivial) (by simp only [intsD, List.length_map, List.length_range]; exact walk_range) fun i I2 H2 x H3 hi e1 e2 y => ?_⟩
  obtain ⟨rfl, rfl⟩ := y
  have hi' : i < n.toNat := by simpa [intsD] using hi
  exact ⟨.int (0 + (i : Nat)), I2, by simp [intsD, hi'], New.refl I2 _, e2, .int _⟩
def iR2 (f g : List T → Option D) : List T → Option (List D) := fun γ => (f γ).bind fun x => (g γ).bind fun y => match x, y with
  | .int lo, .int n => if -(2 ^ 62) ≤ lo ∧ lo < 2 ^ 62 ∧ -(2 ^ 62) ≤ n ∧ n < 2 ^ 62 then some (intsD lo (n - lo).toNat) else none
  | _, _ => none
def iEn (f : List T → Option D) : List T → Option (List D) := fun γ => (f γ).bind fun x => match x with
  | .lst ds => some (enumD ds)
  | _ => none
theorem its_enum {fz : Bool} {f : List T → Option D} (h : Src K fz te f) : ItS K fz (iEnum K (tCons te tNil)) (iEn f) := fun γ ds e σ I H L w R k => by
  unfold iEn at e
  obtain ⟨x, e1, e⟩ := Option.bind_eq_some_iff.mp e
  split at e
  · rename_i zs
    cases e
    refine h.list e1 w fun a xs I1 H1 n1 s1 h1 hG h2 => ?_
    have hl := h2.length
    refine ⟨a, xs, rfl, h1, k _ I1 H1 (fun H' => SqL K H' a xs) _ n1 s1 hG (by simp only [enumD, List.length_map, List.length_zipIdx, ← hl]; exact walk_enum) fun i I2 H2 v H3 hi e1 e2 y => ?_⟩
    obtain ⟨T, x, z, rfl, hT, rfl, hx, hz⟩ := y
    cases hx
    obtain ⟨d, hd, hv⟩ := h2.get hz
    have hdl : i < zs.length := by simpa [enumD] using hi
    obtain ⟨n, s⟩ := alloc (o := .tup [.int (i : Nat), z]) e2 hT
    refine ⟨.tup [.int (i : Nat), d], _, ?_, n, s, .tup (st_of upd_same) (.cons (.int _) (.cons ((hv.mono e1).mono n.i) .nil))⟩
    have hdd : zs[i] = d := by
      rw [List.getElem?_eq_getElem hdl] at hd
      exact Option.some.inj hd
    simp [enumD, hdl, hdd]
  · cases e
def zipD (xs ys : List D) : List D := List.zipWith (fun a b => .tup [a, b]) xs ys
def iZp (f g : List T → Option D) : List T → Option (List D) := fun γ => (f γ).bind fun x => (g γ).bind fun y => match x, y with
  | .lst xs, .lst ys => some (zipD xs ys)
  | _, _ => none
def isEm (γ : List T) (k : Nat) : Bool := match γ[k]? with
  | some .em => true
  | none => true
  | _ => false
def lcP (g : D → List T → Option (List T)) (c : List T → Option Bool) (f : List T → Option D) (γ : List T) : List D → Option (List D)
  | [] => some []
  | d :: ds => (g d γ).bind fun γ1 => (c γ1).bind fun b => if b = true then (f γ1).bind fun y => (lcP g c f γ ds).map (y :: ·) else lcP g c f γ ds
def pLc (vs : List Nat) (it : List T → Option (List D)) (g : D → List T → Option (List T)) (c : List T → Option Bool) (f : List T → Option D) : List T → Option D := fun γ =>
  if vs.all (isEm γ) = true then (it γ).bind fun ds => if ds.length < sizeLine then (lcP g c f γ ds).map .lst else none else none
theorem EnvT.setX (y : Option V) : ∀ {γ : List T} {σ : Sg} {L : List Addr} (i : Nat), isEm γ i = true → EnvT K I H γ σ L → EnvT K I H γ (σ.set i y) L
  | _, _, _, _, _, .nil => .nil
  | _, _, _, 0, _, .em _ e => .em _ e
  | _, _, _, 0, h, .cons (L1 := L1) p e => by
    cases p with
    | em => exact .em _ e
    | _ => simp [isEm] at h
  | _, _, _, i + 1, h, .em x e => .em x (EnvT.setX y i (by simpa [isEm] using h) e)
  | _, _, _, i + 1, h, .cons (L1 := L1) p e => .cons p (EnvT.setX y i (by simpa [isEm] using h) e)
theorem EnvT.wipe (h : EnvT K I H γ σ L) : ∀ {vs : List Nat}, vs.all (isEm γ) = true → EnvT K I H γ (L2.wipe σ vs) L
  | [], _ => h
  | v :: vs, q => by
    simp only [List.all_cons, Bool.and_eq_true] at q
    exact EnvT.setX none v q.1 (EnvT.wipe h q.2)
theorem wipe_agr {vs : List Nat} {σ σ' : Sg} (h : Agr vs σ σ') : wipe σ' vs = wipe σ vs := by
  apply List.ext_getElem?
  intro i
  by_cases hi : i ∈ vs
  · have key : ∀ (ws : List Nat) (τ : Sg), i ∈ ws → (wipe τ ws)[i]? = if i < τ.length then some none else none := by
      intro ws
      induction ws with
      | nil => intro τ h; simp at h
      | cons w ws ih =>
        intro τ h
        show ((wipe τ ws).set w none)[i]? = _
        by_cases hw : w = i
        · subst hw
          rw [List.getElem?_set_self']
          have := wipe_length τ ws
          by_cases hlt : w < τ.length
          · rw [List.getElem?_eq_getElem (by omega), if_pos hlt]; rfl
          · rw [List.getElem?_eq_none (by omega), if_neg hlt]; rfl
        · rw [List.getElem?_set_ne hw]
          rcases List.mem_cons.mp h with h | h
          · exact absurd h.symm hw
          · exact ih τ h
    rw [key vs σ' hi, key vs σ hi, h.1]
  · rw [wipe_out hi, wipe_out hi]
    exact h.2 i hi
theorem lc_pure {fz : Bool} {wi : TI} {g : TG} {vs : List Nat} {it : List T → Option (List D)} {fg : D → List T → Option (List T)} {c : List T → Option Bool} {f : List T → Option D} (hi : ItS K fz wi it) (hg : RgS K vs g fg) (hc : PuT K tt c) (hf : Pu K te f) {ds zs : List D} (hem : vs.all (isEm γ) = true) (e1 : it γ = some ds) (hz : ds.length < sizeLine) (e2 : lcP fg c f γ ds = some zs) (W0 : WS K γ σ I H L) {Q : VK}
    (q : ∀ Dl acc I' H', H Dl = none → I' Dl = none → H' Dl = some (.lst acc) → IsA K I' acc zs → New I H I' H' → Ex I' H' → Q (.ref Dl) H') : tLc wi g tt te vs σ H Q := by
  refine hi γ ds e1 σ I H L W0 _ fun J I1 H1 Gd Y n1 s1 hG hw hy Dl hD => ?_
  have w1 := W0.new n1 s1
  -- the invariant: what is made, what is left
  refine lc_it hw (fun i H' => ∃ I' acc ys rest, New I1 H1 I' H' ∧ Ex I' H' ∧ I' Dl = none ∧ H' Dl = some (.lst acc) ∧ IsA K I' acc ys ∧ ys.length ≤ i ∧ lcP fg c f γ (ds.drop i) = some rest ∧ zs = ys ++ rest) ?_ (fun i H' _ q => ?_) (fun i x H' H2 hin q y => ?_) fun H' q' => ?_
  · exact ⟨I1, [], [], zs, ⟨Ex.refl I1, Ex.new hD, fun a o h => .inl h⟩, fun a o h => Ex.new hD a o (w1.sub a o h), w1.sub.back hD, upd_same, .nil, by simp, by simpa using e2, rfl⟩
  · obtain ⟨I', acc, ys, rest, n, e, _⟩ := q
    exact hG H' (n.i.trans e) fun _ => n.h
  · obtain ⟨I', acc, ys, rest, n, e, hID, hHD, hA, hyl, hrest, hzs⟩ := q
    obtain ⟨d, I3, hd, n3, e3, hv⟩ := hy i I' H' x H2 hin n.i e y
    have hdrop : ds.drop i = d :: ds.drop (i + 1) := by
      obtain ⟨hlt, hde⟩ := List.getElem?_eq_some_iff.mp hd
      rw [List.drop_eq_getElem_cons hlt, hde]
    rw [hdrop] at hrest
    unfold lcP at hrest
    obtain ⟨γ1, g1, hrest⟩ := Option.bind_eq_some_iff.mp hrest
    obtain ⟨b, g2, hrest⟩ := Option.bind_eq_some_iff.mp hrest
    have nn := n.trans n3
    have w3 : WS K γ (wipe σ vs) I3 H2 L := by
      have := w1.new nn e3
      exact ⟨this.env.wipe hem, this.nd, this.fr, this.sub⟩
    have hD2 : H2 Dl = some (.lst acc) := n3.h _ _ hHD
    have hI3 : I3 Dl = none := by
      cases q : I3 Dl with
      | none => rfl
      | some o =>
        rcases n3.n Dl o q with z | z
        · rw [hID] at z; cases z
        · rw [hHD] at z; cases z
    have out : ∀ {I6 H6 : Hp}, New I3 H2 I6 H6 → I6 Dl = none := fun {I6 H6} n6 => by
      cases q : I6 Dl with
      | none => rfl
      | some o =>
        rcases n6.n Dl o q with z | z
        · rw [hI3] at z; cases z
        · rw [hD2] at z; cases z
    refine hg d γ γ1 g1 x _ I3 H2 L w3 hv _ fun σ2 L4 w4 s4 a4 => ⟨(wipe_agr a4).trans (wipe_idem vs σ), ?_⟩
    refine hc γ1 b g2 σ2 I3 H2 L4 w4 _ fun I5 H5 n5 s5 => ?_
    cases b with
    | true =>
      obtain ⟨y1, g3, hrest⟩ := Option.bind_eq_some_iff.mp (show (f γ1).bind (fun y => (lcP fg c f γ (ds.drop (i + 1))).map (y :: ·)) = some rest from hrest)
      cases g4 : lcP fg c f γ (ds.drop (i + 1)) with
      | none => simp [g3, g4] at hrest
      | some rs =>
        have er : rest = y1 :: rs := by
          rw [g4] at hrest
          simp [g3] at hrest
          exact hrest.symm
        show te σ2 H5 _
        refine hf γ1 y1 g3 σ2 I5 H5 L4 (w4.new n5 s5) _ fun u I6 H6 n6 s6 hu => ?_
        have n56 := n5.trans n6
        have n6' := nn.trans n56
        refine ⟨acc, n56.h _ _ hD2, by rw [hA.length]; omega, I6, acc ++ [u], ys ++ [y1], rs, ⟨n6'.i, fun a o h => ?_, n6'.n⟩, fun a o h => ?_, out n56, upd_same, ?_, by simp; omega, rfl, by rw [hzs, er]; simp⟩
        · rw [upd_ne (ne_of_none h hD)]
          exact n6'.h a o h
        · have hne : a ≠ Dl := fun e => by
            subst e
            rw [out n56] at h
            cases h
          rw [upd_ne hne]
          exact s6 a o h
        · exact IsA.append (hA.mono (n3.i.trans n56.i)) (.cons hu .nil)
    | false =>
      show ∃ I' acc ys rest, _
      exact ⟨I5, acc, ys, rest, nn.trans n5, s5, out n5, n5.h _ _ hD2, hA.mono (n3.i.trans n5.i), by omega, by simpa using hrest, hzs⟩
  · obtain ⟨I', acc, ys, rest, n, e, hID, hHD, hA, _, hrest, hzs⟩ := q'
    rw [List.drop_length] at hrest
    cases hrest
    rw [List.append_nil] at hzs
    subst hzs
    exact q Dl acc I' H' (n1.h.back hD) hID hHD hA (n1.trans n) e
theorem pu_lc {fz : Bool} {wi : TI} {g : TG} {vs : List Nat} {it : List T → Option (List D)} {fg : D → List T → Option (List T)} {c : List T → Option Bool} {f : List T → Option D} (hi : ItS K fz wi it) (hg : RgS K vs g fg) (hc : PuT K tt c) (hf : Pu K te f) : Pu K (tLc wi g tt te vs) (pLc vs it fg c f) := fun γ z e σ I H L W0 Q q => by
  unfold pLc at e
  split at e
  · rename_i hem
    obtain ⟨ds, e1, e⟩ := Option.bind_eq_some_iff.mp e
    split at e
    · rename_i hz
      cases e2 : lcP fg c f γ ds with
      | none => simp [e2] at e
      | some zs =>
        simp [e2] at e
        subst e
        refine lc_pure hi hg hc hf hem e1 hz e2 W0 fun Dl acc I' H' h0 hID hHD hA n e => ?_
        have ei : Ex I' (upd I' Dl (.lst acc)) := Ex.new hID
        refine q (.ref Dl) (upd I' Dl (.lst acc)) H' ⟨n.i.trans ei, n.h, fun a o h => ?_⟩ (fun a o h => ?_) (.lst (sq_of upd_same) (hA.mono ei))
        · by_cases hd : a = Dl
          · subst hd
            exact .inr h0
          · rw [upd_ne hd] at h
            exact n.n a o h
        · by_cases hd : a = Dl
          · subst hd
            rw [upd_same] at h
            cases h
            exact hHD
          · rw [upd_ne hd] at h
            exact e a o h
    · cases e
  · cases e
end
end FD
namespace FD
open PySem PySem.Spec PyProof.Rows L2
section
variable {K : PySem.W.Frag} {wr : List Nat} {W : WX'} {ta tb tc te to : TE} {tt tu : TT} {ts tv : TS} {I I' H H' : Hp} {γ γ' : List T} {σ : Sg} {L : List Addr} {v : V} {x : D}
def sNext : List T → Option O := fun γ => some (.nx γ)
theorem rs_next : RunS K wr W tNext sNext := fun γ o e σ I H L w Dn p => by
  cases e
  exact p σ I H L w (Step.refl _ _ _) (.refl σ)
def sSeq (f g : List T → Option O) : List T → Option O := fun γ => (f γ).bind fun o => match o with
  | .nx γ1 => g γ1
  | o => some o
theorem rs_seq {f g : List T → Option O} (h1 : RunS K wr W ts f) (h2 : RunS K wr W tv g) : RunS K wr W (tSeq ts tv) (sSeq f g) := fun γ o e σ I H L w Dn p => by
  unfold sSeq at e
  obtain ⟨o1, e1, e2⟩ := Option.bind_eq_some_iff.mp e
  show ts { Dn with nx := tv Dn } σ H
  cases o1 with
  | nx γ1 => exact h1 γ _ e1 σ I H L w { Dn with nx := tv Dn } fun σ' I' H' L' w' s a => h2 γ1 o e2 σ' I' H' L' w' Dn (p.later s a)
  | rt r γ1 => cases e2; exact h1 γ _ e1 σ I H L w { Dn with nx := tv Dn } p
  | bk γ1 => cases e2; exact h1 γ _ e1 σ I H L w { Dn with nx := tv Dn } p
  | ct γ1 => cases e2; exact h1 γ _ e1 σ I H L w { Dn with nx := tv Dn } p
  | xc C fs γ1 => cases e2; exact h1 γ _ e1 σ I H L w { Dn with nx := tv Dn } p
/-- x = e -/
def sAsg (i : Nat) (f : List T → Option (T × List T)) : List T → Option O := fun γ => (f γ).map fun q => .nx (q.2.set i q.1)
theorem rs_asg {i : Nat} {f : List T → Option (T × List T)} (hf : Ef K te f) (hi : i ∈ wr) : RunS K wr W (tAsg te (gName i)) (sAsg i f) := fun γ o e σ I H L w Dn p => by
  unfold sAsg at e
  cases e1 : f γ with
  | none => simp [e1] at e
  | some q =>
    obtain ⟨t, γ1⟩ := q
    simp [e1] at e
    subst e
    exact hf γ t γ1 e1 σ I H L w _ fun v I1 H1 L1 w1 s1 => by
      obtain ⟨L2, w2, s2⟩ := w1.setF i
      exact p _ I1 H1 L2 w2 (s1.trans s2) (.set hi)
/-- forced to data -/
def eD (f : List T → Option (T × List T)) : List T → Option (T × List T) := fun γ => (f γ).bind fun q => q.1.toD.map fun x => (.d x, q.2)
theorem ef_d {f : List T → Option (T × List T)} (hf : Ef K te f) : Ef K te (eD f) := fun γ t γ' e σ I H L w Q k => by
  unfold eD at e
  obtain ⟨⟨u, γ1⟩, e1, e⟩ := Option.bind_eq_some_iff.mp e
  cases e2 : u.toD with
  | none => simp [e2] at e
  | some x =>
    simp [e2] at e
    obtain ⟨rfl, rfl⟩ := e
    exact hf γ u γ1 e1 σ I H L w _ fun v I1 H1 L1 w1 s1 => by
      obtain ⟨I2, L2, w2, s2, hv⟩ := w1.frz e2
      exact k v I2 H1 L2 (w2.front hv) (s1.trans s2)
/-- x = e, kept as data -/
def sAsgD (i : Nat) (f : List T → Option (T × List T)) : List T → Option O := fun γ => (f γ).bind fun q => q.1.toD.map fun x => .nx (q.2.set i (.d x))
theorem rs_asgD {i : Nat} {f : List T → Option (T × List T)} (hf : Ef K te f) (hi : i ∈ wr) : RunS K wr W (tAsg te (gName i)) (sAsgD i f) := fun γ o e σ I H L w Dn p => by
  unfold sAsgD at e
  obtain ⟨⟨t, γ1⟩, e1, e⟩ := Option.bind_eq_some_iff.mp e
  cases e2 : t.toD with
  | none => simp [e2] at e
  | some x =>
    simp [e2] at e
    subst e
    exact hf γ t γ1 e1 σ I H L w _ fun v I1 H1 L1 w1 s1 => by
      obtain ⟨I2, L2, w2, s2, hv⟩ := w1.frz e2
      obtain ⟨L3, w3, s3⟩ := (w2.front hv).setF i
      exact p _ I2 H1 L3 w3 ((s1.trans s2).trans s3) (.set hi)
/-- targets = e -/
def sAsgG (g : D → List T → Option (List T)) (f : List T → Option (T × List T)) : List T → Option O := fun γ => (f γ).bind fun q => q.1.toD.bind fun x => (g x q.2).map .nx
theorem rs_asgG {g : TG} {fg : D → List T → Option (List T)} {f : List T → Option (T × List T)} (hf : Ef K te f) (hg : RgS K wr g fg) : RunS K wr W (tAsg te g) (sAsgG fg f) := fun γ o e σ I H L w Dn p => by
  unfold sAsgG at e
  obtain ⟨⟨t, γ1⟩, e1, e⟩ := Option.bind_eq_some_iff.mp e
  obtain ⟨x, e2, e⟩ := Option.bind_eq_some_iff.mp e
  cases e3 : fg x γ1 with
  | none => simp [e3] at e
  | some γ2 =>
    simp [e3] at e
    subst e
    exact hf γ t γ1 e1 σ I H L w _ fun v I1 H1 L1 w1 s1 => by
      obtain ⟨I2, L2, w2, s2, hv⟩ := w1.frz e2
      exact hg x γ1 γ2 e3 v σ I2 H1 L2 w2 hv _ fun σ' L' w' s' a' => p σ' I2 H1 L' w' ((s1.trans s2).trans s') a'
/-- x, y = a, b : one by one -/
def sPar (js : List Nat) (g : List T → Option (List T × List T)) : List T → Option O := fun γ => (g γ).bind fun q => if q.1.length = js.length then some (.nx ((js.zip q.1).foldl (fun γ p => γ.set p.1 p.2) q.2)) else none
theorem WS.setF2 {t u : T} {v w' : V} (w : WS K (t :: u :: γ) (some v :: some w' :: σ) I H L) (i j : Nat) (hij : i ≠ j) : ∃ L', WS K ((γ.set i t).set j u) ((σ.set i (some v)).set j (some w')) I H L' ∧ Step I H L I H L' := by
  obtain ⟨L1, L2, rfl, w2, hold⟩ := w.hold
  obtain ⟨L3, w3, s3⟩ := w2.setF j
  obtain ⟨w4, s4⟩ := hold w3 s3
  obtain ⟨L5, w5, s5⟩ := w4.setF i
  rw [List.set_comm _ _ (Ne.symm hij), List.set_comm (some w') (some v) (Ne.symm hij)] at w5
  exact ⟨L5, w5, s4.trans s5⟩
theorem rs_par {i j : Nat} {g : List T → Option (List T × List T)} {bs : List (Option Nat)} {tr : TA} (hg : EfA K tr bs g) (hb : bs = [none, none]) (hij : i ≠ j) (hi : i ∈ wr) (hj : j ∈ wr) : RunS K wr W (tPar i j tr) (sPar [i, j] g) := fun γ o e σ I H L w Dn p => by
  unfold sPar at e
  obtain ⟨⟨us, γ1⟩, e1, e⟩ := Option.bind_eq_some_iff.mp e
  split at e
  · rename_i hl
    cases e
    match us, hl with
    | [t, u], _ =>
      refine hg γ _ γ1 e1 σ I H L w _ fun vs I1 H1 L1 w1 s1 hbr => ?_
      subst hb
      obtain ⟨v, ws, rfl, v2, ws2, rfl, h3⟩ := hbr
      cases (show ws2 = [] from h3)
      obtain ⟨L2, w2, s2⟩ := WS.setF2 w1 i j hij
      exact ⟨v, v2, rfl, p _ I1 H1 L2 w2 (s1.trans s2) ((Agr.set hi).trans (.set hj))⟩
  · cases e
theorem WS.setF3 {t u z : T} {v w' y : V} (w : WS K (t :: u :: z :: γ) (some v :: some w' :: some y :: σ) I H L) (i j k : Nat) (hij : i ≠ j) (hik : i ≠ k) (hjk : j ≠ k) : ∃ L', WS K (((γ.set i t).set j u).set k z) (((σ.set i (some v)).set j (some w')).set k (some y)) I H L' ∧ Step I H L I H L' := by
  obtain ⟨L1, L2, rfl, w2, hold⟩ := w.hold
  obtain ⟨L3, w3, s3⟩ := WS.setF2 w2 j k hjk
  obtain ⟨w4, s4⟩ := hold w3 s3
  obtain ⟨L5, w5, s5⟩ := w4.setF i
  rw [List.set_comm _ _ (Ne.symm hik), List.set_comm _ _ (Ne.symm hij), List.set_comm (some y) (some v) (Ne.symm hik), List.set_comm (some w') (some v) (Ne.symm hij)] at w5
  exact ⟨L5, w5, s4.trans s5⟩
theorem rs_par3 {i j k : Nat} {g : List T → Option (List T × List T)} {bs : List (Option Nat)} {tr : TA} (hg : EfA K tr bs g) (hb : bs = [none, none, none]) (hij : i ≠ j) (hik : i ≠ k) (hjk : j ≠ k) (hi : i ∈ wr) (hj : j ∈ wr) (hk : k ∈ wr) : RunS K wr W (tPar3 i j k tr) (sPar [i, j, k] g) := fun γ o e σ I H L w Dn p => by
  unfold sPar at e
  obtain ⟨⟨us, γ1⟩, e1, e⟩ := Option.bind_eq_some_iff.mp e
  split at e
  · rename_i hl
    cases e
    match us, hl with
    | [t, u, z], _ =>
      refine hg γ _ γ1 e1 σ I H L w _ fun vs I1 H1 L1 w1 s1 hbr => ?_
      subst hb
      obtain ⟨v, ws, rfl, v2, ws2, rfl, v3, ws3, rfl, h3⟩ := hbr
      cases (show ws3 = [] from h3)
      obtain ⟨L2, w2, s2⟩ := WS.setF3 w1 i j k hij hik hjk
      exact ⟨v, v2, v3, rfl, p _ I1 H1 L2 w2 (s1.trans s2) (((Agr.set hi).trans (.set hj)).trans (.set hk))⟩
  · cases e
/-- return e -/
def sRet (f : List T → Option (T × List T)) : List T → Option O := fun γ => (f γ).map fun q => .rt q.1 q.2
theorem rs_ret {f : List T → Option (T × List T)} (hf : Ef K te f) : RunS K wr W (tRet te) (sRet f) := fun γ o e σ I H L w Dn p => by
  unfold sRet at e
  cases e1 : f γ with
  | none => simp [e1] at e
  | some q =>
    obtain ⟨t, γ1⟩ := q
    simp [e1] at e
    subst e
    exact hf γ t γ1 e1 σ I H L w _ fun v I1 H1 L1 w1 s1 => p v σ I1 H1 L1 w1 s1 (.refl σ)
def sRetN : List T → Option O := fun γ => some (.rt (.d .non) γ)
/-- return x, x a slot's own thing: moved out -/
def eMov (i : Nat) : List T → Option (T × List T) := fun γ => match γ[i]? with
  | some (.d x) => some (.d x, γ)
  | some .em => none
  | some t => some (t, γ.set i .em)
  | none => none
/-- e -/
def sExpr (f : List T → Option (T × List T)) : List T → Option O := fun γ => (f γ).map fun q => .nx q.2
def sBrk : List T → Option O := fun γ => some (.bk γ)
def sCont : List T → Option O := fun γ => some (.ct γ)
/-- if -/
def sIf (p : List T → Option (Bool × List T)) (f g : List T → Option O) : List T → Option O := fun γ => (p γ).bind fun q => if q.1 = true then f q.2 else g q.2
theorem rs_if {p : List T → Option (Bool × List T)} {f g : List T → Option O} (hp : EfT K tt p) (hf : RunS K wr W ts f) (hg : RunS K wr W tv g) : RunS K wr W (tIfS tt ts tv) (sIf p f g) := fun γ o e σ I H L w Dn q => by
  unfold sIf at e
  obtain ⟨⟨b, γ1⟩, e1, e2⟩ := Option.bind_eq_some_iff.mp e
  refine hp γ b γ1 e1 σ I H L w _ fun I1 H1 L1 w1 s1 => ?_
  cases b with
  | true =>
    show ts Dn σ H1
    exact hf γ1 o (by simpa using e2) σ I1 H1 L1 w1 Dn (q.later s1 (.refl σ))
  | false =>
    show tv Dn σ H1
    exact hg γ1 o (by simpa using e2) σ I1 H1 L1 w1 Dn (q.later s1 (.refl σ))
/-- unreachable -/
def sNo : List T → Option O := fun _ => none
def eNo : List T → Option (T × List T) := fun _ => none
/-- a walk whose source has effects -/
def ItE (K : PySem.W.Frag) (wi : TI) (f : List T → Option (List D × List T)) : Prop := ∀ γ ds γ', f γ = some (ds, γ') → ∀ σ I H L, WS K γ σ I H L → ∀ R : It → Hp → Prop,
  (∀ J I1 H1 L1 (G : Hp → Prop) Y, WS K γ' σ I1 H1 L1 → Step I H L I1 H1 L1 → (∀ H', Ex I1 H' → G H') → Walk J ds.length G Y →
    (∀ i I2 H2 x H3, i < ds.length → Ex I1 I2 → Ex I2 H2 → Y i H2 x H3 → ∃ d I3, ds[i]? = some d ∧ New I2 H2 I3 H3 ∧ Ex I3 H3 ∧ Is K I3 x d) → R J H1) → wi σ H R
def iP (f : List T → Option (List D)) : List T → Option (List D × List T) := fun γ => (f γ).map fun ds => (ds, γ)
theorem ite_p {wi : TI} {f : List T → Option (List D)} (h : ItS K true wi f) : ItE K wi (iP f) := fun γ ds γ' e σ I H L w R k => by
  unfold iP at e
  cases e1 : f γ with
  | none => simp [e1] at e
  | some zs =>
    simp [e1] at e
    obtain ⟨rfl, rfl⟩ := e
    exact h γ _ e1 σ I H L w R fun J I1 H1 G Y n1 s1 hG hw hy => k J I1 H1 L G Y (w.new n1 s1) n1.stp (fun H' e => hG H' e fun z => nomatch z) hw hy
def iR1E (f : List T → Option (T × List T)) : List T → Option (List D × List T) := fun γ => (f γ).bind fun q => match q.1 with
  | .d (.int n) => if -(2 ^ 62) ≤ n ∧ n < 2 ^ 62 then some (intsD 0 n.toNat, q.2) else none
  | _ => none
theorem ite_rng1 {f : List T → Option (T × List T)} (h : Ef K te f) : ItE K (iRng1 (tCons te tNil)) (iR1E f) := fun γ ds γ' e σ I H L w R k => by
  unfold iR1E at e
  obtain ⟨⟨t, γ1⟩, e1, e⟩ := Option.bind_eq_some_iff.mp e
  dsimp only at e
  split at e
  · rename_i n
    split at e
    · rename_i hn
      cases e
      refine h γ _ _ e1 σ I H L w _ fun v I1 H1 L1 w1 s1 => ?_
      obtain ⟨L2, w2, s2, h2⟩ := w1.tail
      obtain ⟨rfl, v', ev, hv⟩ := h2 _ rfl
      cases ev
      cases hv
      refine ⟨n, rfl, hn.1, hn.2, k _ I1 H1 _ (fun _ => True) (YFn fun i => .int (0 + (i : Nat))) w2 s1 (fun _ _ => trivial) (by simp only [intsD, List.length_map, List.length_range]; exact walk_range) fun i I2 H2 x H3 hi e1 e2 y => ?_⟩
      obtain ⟨rfl, rfl⟩ := y
      have hi' : i < n.toNat := by simpa [intsD] using hi
      exact ⟨.int (0 + (i : Nat)), I2, by simp [intsD, hi'], New.refl I2 _, e2, .int _⟩
    · cases e
  · cases e
/-- a source with effects, frozen -/
def iAnyE (f : List T → Option (T × List T)) : List T → Option (List D × List T) := fun γ => (f γ).bind fun q => q.1.toD.bind fun y => (walkD y).map fun ds => (ds, q.2)
theorem ite_any {f : List T → Option (T × List T)} (h : Ef K te f) : ItE K (iAny K te) (iAnyE f) := fun γ ds γ' e σ I H L w R k => by
  unfold iAnyE at e
  obtain ⟨⟨t, γ1⟩, e1, e⟩ := Option.bind_eq_some_iff.mp e
  obtain ⟨y, e2, e⟩ := Option.bind_eq_some_iff.mp e
  cases e3 : walkD y with
  | none => simp [e3] at e
  | some zs =>
    simp [e3] at e
    obtain ⟨rfl, rfl⟩ := e
    cases y <;> simp [walkD] at e3
    · rename_i s
      subst e3
      refine .inr (.inr (h γ t _ e1 σ I H L w _ fun v I1 H1 L1 w1 s1 => ?_))
      obtain ⟨I2, L2, w2, s2, hv⟩ := w1.frz e2
      cases hv
      refine ⟨s, rfl, k _ I2 H1 L2 (fun _ => True) _ w2 (s1.trans s2) (fun _ _ => trivial) (by simp only [signs, List.length_map, Array.length_toList]; exact walk_str) fun i I2 H2 x H3 hi e1 e2 y => ?_⟩
      obtain ⟨rfl, c, hc, rfl⟩ := y
      exact ⟨.str ⟨#[c]⟩, I2, by simp [signs, hc], New.refl I2 _, e2, .str _⟩
    · subst e3
      refine .inl (h γ t _ e1 σ I H L w _ fun v I1 H1 L1 w1 s1 => ?_)
      obtain ⟨I2, L2, w2, s2, hv⟩ := w1.frz e2
      cases hv with
      | @lst a xs _ h1 h2 =>
        have hl := h2.length
        refine ⟨a, rfl, ⟨xs, w2.sub.l h1⟩, k _ I2 H1 L2 (fun H' => SqL K H' a xs) (YAt xs) w2 (s1.trans s2) (fun H' e => e.l h1) (hl ▸ walk_list) fun i I2 H2 x H3 hi e3 e4 y => ?_⟩
        obtain ⟨rfl, hx⟩ := y
        obtain ⟨d, hd, hv⟩ := h2.get hx
        exact ⟨d, I2, hd, New.refl I2 _, e4, hv.mono e3⟩
    · subst e3
      refine .inr (.inl (h γ t _ e1 σ I H L w _ fun v I1 H1 L1 w1 s1 => ?_))
      obtain ⟨I2, L2, w2, s2, hv⟩ := w1.frz e2
      cases hv with
      | @tup a xs _ h1 h2 =>
        have hl := h2.length
        refine ⟨a, rfl, ⟨xs, w2.sub.t h1⟩, k _ I2 H1 L2 (fun H' => SqT K H' a xs) (YAt xs) w2 (s1.trans s2) (fun H' e => e.t h1) (hl ▸ walk_tup) fun i I2 H2 x H3 hi e3 e4 y => ?_⟩
        obtain ⟨rfl, hx⟩ := y
        obtain ⟨d, hd, hv⟩ := h2.get hx
        exact ⟨d, I2, hd, New.refl I2 _, e4, hv.mono e3⟩
def forS (g : D → List T → Option (List T)) (b : List T → Option O) : List D → List T → Option O
  | [], γ => some (.nx γ)
  | d :: ds, γ => (g d γ).bind fun γ1 => (b γ1).bind fun o => match o with
    | .nx γ2 => forS g b ds γ2
    | .ct γ2 => forS g b ds γ2
    | .bk γ2 => some (.nx γ2)
    | o => some o
def sFor (it : List T → Option (List D × List T)) (g : D → List T → Option (List T)) (b : List T → Option O) : List T → Option O := fun γ => (it γ).bind fun q => forS g b q.1 q.2
theorem rs_for {wi : TI} {g : TG} {it : List T → Option (List D × List T)} {fg : D → List T → Option (List T)} {f : List T → Option O} (hi : ItE K wi it) (hg : RgS K wr g fg) (hf : RunS K wr W ts f) : RunS K wr W (tFor wi g ts) (sFor it fg f) := fun γ o e σ I H L w Dn p => by
  unfold sFor at e
  obtain ⟨⟨ds, γ0⟩, e1, e2⟩ := Option.bind_eq_some_iff.mp e
  refine hi γ ds γ0 e1 σ I H L w _ fun J I1 H1 L0 Gd Y w1 s0 hG hw hy => ?_
  refine for_it hw (fun i σ' H' => ∃ γi I' L', WS K γi σ' I' H' L' ∧ Step I1 H1 L0 I' H' L' ∧ Agr wr σ σ' ∧ forS fg f (ds.drop i) γi = some o) ⟨γ0, I1, L0, w1, Step.refl _ _ _, .refl σ, by simpa using e2⟩ (fun i σ' H' _ q => ?_) (fun i x σ' H' H2 hin q y => ?_) fun σ' H' q => ?_
  · obtain ⟨γi, I', L', w', s', a', _⟩ := q
    exact hG H' (s'.i.trans w'.sub)
  · obtain ⟨γi, I', L', w', s', a', hfor⟩ := q
    obtain ⟨d, I3, hd, n3, e3, hv⟩ := hy i I' H' x H2 hin s'.i w'.sub y
    have hdrop : ds.drop i = d :: ds.drop (i + 1) := by
      obtain ⟨hlt, hde⟩ := List.getElem?_eq_some_iff.mp hd
      rw [List.drop_eq_getElem_cons hlt, hde]
    rw [hdrop] at hfor
    unfold forS at hfor
    obtain ⟨γ1, g1, hfor⟩ := Option.bind_eq_some_iff.mp hfor
    obtain ⟨o1, g2, hfor⟩ := Option.bind_eq_some_iff.mp hfor
    have w3 := w'.new n3 e3
    have s3 : Step I1 H1 L0 I3 H2 L' := s'.trans n3.stp
    refine hg d γi γ1 g1 x σ' I3 H2 L' w3 hv _ fun σ4 L4 w4 s4 a4 => ?_
    have s34 := s3.trans s4
    have a34 := a'.trans a4
    have pl : PostS K wr W Dn σ4 I3 H2 L4 o := p.later (s0.trans s34) a34
    refine hf γ1 o1 g2 σ4 I3 H2 L4 w4 _ ?_
    cases o1 with
    | nx γ2 => exact fun σ5 I5 H5 L5 w5 s5 a5 => ⟨γ2, I5, L5, w5, s34.trans s5, a34.trans a5, hfor⟩
    | ct γ2 => exact fun σ5 I5 H5 L5 w5 s5 a5 => ⟨γ2, I5, L5, w5, s34.trans s5, a34.trans a5, hfor⟩
    | bk γ2 =>
      cases hfor
      exact fun σ5 I5 H5 L5 w5 s5 a5 => pl σ5 I5 H5 L5 w5 s5 a5
    | rt r γ2 =>
      cases hfor
      exact pl
    | xc C fs γ2 =>
      cases hfor
      exact pl
  · obtain ⟨γi, I', L', w', s', a', hfor⟩ := q
    rw [List.drop_length] at hfor
    cases hfor
    exact p σ' I' H' L' w' (s0.trans s') a'
def T.isD : T → Bool
  | .d _ => true
  | .em => true
  | _ => false
/-- the parameters behind the body -/
def postP : List T → List T → List T
  | .d x :: ps, _ :: γ => .d x :: postP ps γ
  | .em :: ps, _ :: γ => .em :: postP ps γ
  | _ :: ps, t :: γ => t :: postP ps γ
  | _, _ => []
def okW (wr : List Nat) (pre : List T) : Bool := wr.all fun i => match pre[i]? with
  | some t => t.isD
  | none => true
/-- a def: its slots, the slots it writes, its body -/
def fnF (np n : Nat) (wr : List Nat) (b : List T → Option O) : FN := fun pre => if pre.length = np ∧ okW wr pre = true then (b (pre ++ List.replicate (n - pre.length) .em)).bind fun o => match o with
  | .rt r γ => some (.ret r (postP pre γ))
  | .nx γ => some (.ret (.d .non) (postP pre γ))
  | .xc C fs γ => some (.exc C fs (postP pre γ))
  | _ => none else none
theorem EnvT.more : ∀ {γ : List T} {σ : Sg} {L : List Addr} (n : Nat), EnvT K I H γ σ L → EnvT K I H (γ ++ List.replicate n .em) (σ ++ List.replicate n none) L
  | _, _, _, 0, .nil => .nil
  | _, _, _, n + 1, .nil => .em _ (EnvT.more n .nil)
  | _, _, _, n, .em x e => .em x (EnvT.more n e)
  | _, _, _, n, .cons p e => .cons p (EnvT.more n e)
theorem EnvT.post (e : Ex I I') : ∀ {pre γ : List T} {vs : List V} {σ' : Sg} {L L1 : List Addr}, (∀ (i : Nat) (t : T), pre[i]? = some t → t.isD = false → σ'[i]? = (vs.map some)[i]?) → EnvT K I H pre (vs.map some) L → pre.length ≤ γ.length → EnvT K I' H' γ σ' L1 → ∃ L', L'.Sublist L1 ∧ EnvT K I' H' (postP pre γ) (vs.map some) L'
  | [], _, [], _, _, L1, _, .nil, _, _ => ⟨[], List.nil_sublist _, .nil⟩
  | t :: pre, [], _, _, _, _, _, _, hl, _ => by simp at hl
  | t :: pre, u :: γ, [], _, _, _, _, h, _, _ => by cases h
  | t :: pre, u :: γ, v :: vs, σ', L, L1, hp, h, hl, g => by
    have step : ∀ {L0 : List Addr}, EnvT K I H pre (vs.map some) L0 → ∀ {y : Option V} {τ : Sg} {L2 : List Addr}, σ' = y :: τ → EnvT K I' H' γ τ L2 → ∃ L', L'.Sublist L2 ∧ EnvT K I' H' (postP pre γ) (vs.map some) L' := fun {L0} hr {y τ L2} eσ gr =>
      EnvT.post e (fun i t' ht hd => by
        have := hp (i + 1) t' (by simpa using ht) hd
        subst eσ
        simpa using this) hr (by simpa using hl) gr
    have hrest : ∃ L0 L3, EnvT K I H pre (vs.map some) L0 ∧ Ow K I H v t L3 := by
      cases h with
      | em x h => exact ⟨_, [], h, .em _⟩
      | cons p h => exact ⟨_, _, h, p⟩
    obtain ⟨L0, L3, hr, hv⟩ := hrest
    have fin : ∀ {y : Option V} {τ : Sg} {M1 M2 : List Addr}, σ' = y :: τ → L1 = M1 ++ M2 → EnvT K I' H' γ τ M2 → (t.isD = false → y = some v → ∃ M, M.Sublist M1 ∧ (M = [] ∧ u = .em ∨ Ow K I' H' v u M)) → ∃ L', L'.Sublist L1 ∧ EnvT K I' H' (postP (t :: pre) (u :: γ)) (some v :: vs.map some) L' := fun {y τ M1 M2} eσ eL gr hu => by
      obtain ⟨L', s, r⟩ := step hr eσ gr
      have yv : t.isD = false → y = some v := fun hd => by
        have := hp 0 t rfl hd
        subst eσ
        simpa using this
      have own : t.isD = false → ∃ L', L'.Sublist L1 ∧ EnvT K I' H' (u :: postP pre γ) (some v :: vs.map some) L' := fun hd => by
        obtain ⟨M, sM, hM⟩ := hu hd (yv hd)
        rcases hM with ⟨rfl, rfl⟩ | hM
        · exact ⟨L', by rw [eL]; exact s.trans (List.sublist_append_right _ _), .em _ r⟩
        · exact ⟨M ++ L', by rw [eL]; exact sM.append s, .cons hM r⟩
      cases t with
      | em => exact ⟨L', by rw [eL]; exact s.trans (List.sublist_append_right _ _), .em _ r⟩
      | d x =>
        cases hv with
        | d hv => exact ⟨L', by rw [eL]; exact s.trans (List.sublist_append_right _ _), .cons (L1 := []) (.d (hv.mono e)) r⟩
      | lst => exact own rfl
      | dic => exact own rfl
      | obj => exact own rfl
    cases g with
    | @em _ τ M y g => exact fin (M1 := []) rfl rfl g fun _ _ => ⟨[], List.Sublist.refl _, .inl ⟨rfl, rfl⟩⟩
    | @cons _ τ _ y M1 M2 p g => exact fin rfl rfl g fun _ hy => ⟨M1, List.Sublist.refl _, .inr (by cases hy; exact p)⟩
theorem body_okS {n np : Nat} {f : List T → Option O} {vs : List V} {Q : VK} {E : XK} {N : List Str} (hf : RunS K wr (fun cls d _ H' => E cls d H') ts f) (hn : N.length = n) (hle : np ≤ n)
    (h : spF K (fnF np n wr f) vs H Q E) : ts { nx := fun _ H' => Q .non H', rt := Q } (start N vs) H := by
  obtain ⟨pre, out, I, L, e, w, q⟩ := h
  unfold fnF at e
  split at e
  · rename_i hw
    obtain ⟨hnp, hw⟩ := hw
    obtain ⟨o, e1, e2⟩ := Option.bind_eq_some_iff.mp e
    have hl : pre.length = vs.length := by simpa using w.env.len
    have w0 : WS K (pre ++ List.replicate (n - pre.length) .em) (start N vs) I H L := ⟨by
      have := EnvT.more (n - pre.length) w.env
      rw [show start N vs = vs.map some ++ List.replicate (n - pre.length) none from by rw [hl, ← hn]; rfl]
      exact this, w.nd, w.fr, w.sub⟩
    have hlN : (start N vs).length = n := by
      have := w0.env.len
      simp at this
      omega
    have pin : ∀ {σ' : Sg}, Agr wr (start N vs) σ' → ∀ (i : Nat) (t : T), pre[i]? = some t → t.isD = false → σ'[i]? = (vs.map some)[i]? := fun {σ'} a i t ht hd => by
      have hi : i ∉ wr := fun hm => by
        have := List.all_eq_true.mp hw i hm
        rw [ht] at this
        dsimp only at this
        rw [hd] at this
        cases this
      rw [a.2 i hi]
      have hlt : i < pre.length := (List.getElem?_eq_some_iff.mp ht).1
      show (vs.map some ++ List.replicate (N.length - vs.length) none)[i]? = _
      rw [List.getElem?_append_left (by simp; omega)]
    have fin : ∀ {σ' : Sg} {I' H' : Hp} {L' : List Addr} {γ : List T}, WS K γ σ' I' H' L' → Step I H L I' H' L' → Agr wr (start N vs) σ' → ∃ L2, WS K (postP pre γ) (vs.map some) I' H' L2 ∧ Step I' H' L' I' H' L2 := fun {σ' I' H' L' γ} w' s' a' => by
      have hγ : pre.length ≤ γ.length := by
        rw [w'.env.len, a'.1, hlN]; omega
      obtain ⟨L2, sl, e⟩ := EnvT.post s'.i (pin a') w.env hγ w'.env
      exact ⟨L2, ⟨e, w'.nd.sublist sl, fun a ha => w'.fr a (sl.subset ha), w'.sub⟩, Step.sublist sl⟩
    refine hf _ o e1 (start N vs) I H L w0 _ ?_
    cases o with
    | rt r γ =>
      cases e2
      intro v σ' I' H' L' w' s' a'
      obtain ⟨M1, M2, rfl, w2, hold⟩ := w'.hold
      obtain ⟨L3, w3, s3⟩ := fin (L' := M2) w2 ⟨s'.i, fun a o h hl => s'.keep a o h hl, fun a h => s'.l a (by simp [h]), fun a o h => s'.n a o h⟩ a'
      obtain ⟨w4, s4⟩ := hold w3 s3
      exact q v I' H' _ w4 (s'.trans s4)
    | nx γ =>
      cases e2
      intro σ' I' H' L' w' s' a'
      obtain ⟨L3, w3, s3⟩ := fin w' s' a'
      exact q .non I' H' L3 (w3.front .non) (s'.trans s3)
    | xc C fs γ =>
      cases e2
      intro d σ' I' H' L' w' s' a' hx
      obtain ⟨L3, w3, s3⟩ := fin w' s' a'
      obtain ⟨kvs, x1, x2, x3, x4⟩ := hx
      exact q d I' H' L3 w3 (s'.trans s3) ⟨kvs, x1, fun z => (s3.l d z).elim x2 (fun y => by rw [x1] at y; cases y), x3, x4⟩
    | bk γ => cases e2
    | ct γ => cases e2
  · cases e
variable {P : Program} {w : PySem.World} {mg : Str → Option Value} {base : Heap}
/-- THE RULE for a def that raises nothing -/
theorem spF_len {np n : Nat} {wr : List Nat} {fb : List T → Option O} {vs : List V} {H : Hp} {Q : VK} {E : XK} (h : spF K (fnF np n wr fb) vs H Q E) : vs.length = np := by
  obtain ⟨pre, out, I, L, e, w, q⟩ := h
  unfold fnF at e
  split at e
  · rename_i h
    rw [← h.1]
    have := w.env.len
    simpa using this.symm
  · cases e
theorem okF {x qual : Str} {st : Stmt} {f : Addr} {fd : FuncData} {N ps : List Str} {k : Nat} {fb : List T → Option O} {wr : List Nat} {n np : Nat} (F : Fun K x qual st f fd) (S : FnScope N ps (defScope st)) (hn : N.length = n) (hnp : ps.length = np) (hle : np ≤ n)
    (hbody : ∀ (cdv : Value) (A : Around) (outer : List Env) (s : Shared) (H : Hp) (E : XK), Room k (A.deeper (envOfC qual (defScope st) s.heap.objs.size f cdv)) →
      ∃ t, PSs (cxOf CX0 P w K mg base N qual (defScope st) f cdv A outer s H E).nox (defBody st) t ∧ RunS K wr (fun cls d _ H' => E cls d H') t fb) : FnOk P w K mg base CX0 (k + 1) f fd ps (spF K (fnF np n wr fb)) := by
  refine F.ok S (fun vs H Q E h => (spF_len h).trans hnp.symm) fun cdv A outer s H vs Q E hr h => ?_
  obtain ⟨t, ht, hb⟩ := hbody cdv A outer s H E hr
  exact ⟨t, ht, body_okS hb hn hle h⟩
end
end FD
namespace FD
open PySem PySem.Spec PyProof.Rows L2
section
variable {K : PySem.W.Frag} {wr : List Nat} {W : WX'} {ta tb tc te to td ty tx : TE} {tt tu : TT} {ts tv : TS} {I I' H H' : Hp} {γ γ' : List T} {σ : Sg} {L : List Addr} {v : V} {x : D}
/-- a comprehension of pure parts, one's own list -/
def eLcO (vs : List Nat) (it : List T → Option (List D)) (g : D → List T → Option (List T)) (c : List T → Option Bool) (f : List T → Option D) : List T → Option (T × List T) := fun γ =>
  if vs.all (isEm γ) = true then (it γ).bind fun ds => if ds.length < sizeLine then (lcP g c f γ ds).map fun zs => (.lst zs, γ) else none else none
theorem WS.layD {a : Addr} {acc : List V} {zs : List D} (w : WS K γ σ I H L) (h0 : H a = none) (hI : I' a = none) (hH : H' a = some (.lst acc)) (hA : IsA K I' acc zs) (n : New I H I' H') (e : Ex I' H') : WS K (.lst zs :: γ) (some (.ref a) :: σ) I' H' (a :: L) ∧ Step I H L I' H' (a :: L) := by
  have w1 := w.new n e
  have ha : a ∉ L := fun h => w.live a h h0
  refine ⟨⟨.cons (L1 := [a]) (.lst hH hA) w1.env, List.nodup_cons.mpr ⟨ha, w.nd⟩, fun b hb => ?_, e⟩, ⟨n.i, fun b o h _ => n.h b o h, fun b hb => ?_, fun b o h => (n.n b o h).elim .inl fun z => .inr (.inr z)⟩⟩
  · rcases List.mem_cons.mp hb with rfl | hb
    · exact hI
    · exact w1.fr b hb
  · rcases List.mem_cons.mp hb with rfl | hb
    · exact .inr h0
    · exact .inl hb
theorem ef_lcO {fz : Bool} {wi : TI} {g : TG} {vs : List Nat} {it : List T → Option (List D)} {fg : D → List T → Option (List T)} {c : List T → Option Bool} {f : List T → Option D} (hi : ItS K fz wi it) (hg : RgS K vs g fg) (hc : PuT K tt c) (hf : Pu K te f) : Ef K (tLc wi g tt te vs) (eLcO vs it fg c f) := fun γ t γ' e σ I H L W0 Q q => by
  unfold eLcO at e
  split at e
  · rename_i hem
    obtain ⟨ds, e1, e⟩ := Option.bind_eq_some_iff.mp e
    split at e
    · rename_i hz
      cases e2 : lcP fg c f γ ds with
      | none => simp [e2] at e
      | some zs =>
        simp [e2] at e
        obtain ⟨rfl, rfl⟩ := e
        refine lc_pure hi hg hc hf hem e1 hz e2 W0 fun Dl acc I' H' h0 hID hHD hA n e => ?_
        obtain ⟨w', s'⟩ := W0.layD h0 hID hHD hA n e
        exact q _ I' H' _ w' s'
    · cases e
  · cases e
def unset (vs : List Nat) (γ : List T) : List T := vs.foldr (fun k γ => γ.set k .em) γ
def lcE (vs : List Nat) (g : D → List T → Option (List T)) (c : List T → Option (Bool × List T)) (f : List T → Option (T × List T)) : List D → List T → Option (List D × List T)
  | [], γ => some ([], γ)
  | d :: ds, γ => (g d γ).bind fun γ1 => (c γ1).bind fun p => if p.1 = true then (f p.2).bind fun q => q.1.toD.bind fun y => (lcE vs g c f ds (unset vs q.2)).map fun r => (y :: r.1, r.2) else lcE vs g c f ds (unset vs p.2)
def eLc (vs : List Nat) (it : List T → Option (List D × List T)) (g : D → List T → Option (List T)) (c : List T → Option (Bool × List T)) (f : List T → Option (T × List T)) : List T → Option (T × List T) := fun γ =>
  if vs.all (isEm γ) = true then (it γ).bind fun p => if vs.all (isEm p.2) = true ∧ p.1.length < sizeLine then (lcE vs g c f p.1 p.2).bind fun r => if vs.all (isEm r.2) = true then some (.lst r.1, r.2) else none else none else none
theorem WS.wipeU : ∀ {vs : List Nat} {γ : List T} {σ : Sg} {L : List Addr}, WS K γ σ I H L → ∃ L', WS K (unset vs γ) (wipe σ vs) I H L' ∧ Step I H L I H L'
  | [], _, _, L, w => ⟨L, w, Step.refl _ _ _⟩
  | k :: vs, γ, σ, L, w => by
    obtain ⟨L1, w1, s1⟩ := WS.wipeU (vs := vs) w
    obtain ⟨L2, w2, s2⟩ := w1.setE none k
    exact ⟨L2, w2, s1.trans s2⟩
theorem EnvT.unset (y : Option V) : ∀ {γ : List T} {σ : Sg} {L : List Addr} (i : Nat), isEm γ i = true → EnvT K I H γ (σ.set i y) L → EnvT K I H γ σ L
  | _, [], _, _, _, e => by simpa using e
  | _, s :: σ, _, 0, h, e => by
    rw [List.set_cons_zero] at e
    cases e with
    | em _ e => exact .em _ e
    | cons p e =>
      cases p with
      | em => exact .em _ e
      | _ => simp [isEm] at h
  | _, s :: σ, _, i + 1, h, e => by
    rw [List.set_cons_succ] at e
    cases e with
    | em _ e => exact .em _ (EnvT.unset y i (by simpa [isEm] using h) e)
    | cons p e => exact .cons p (EnvT.unset y i (by simpa [isEm] using h) e)
theorem EnvT.unwipe : ∀ {vs : List Nat}, vs.all (isEm γ) = true → EnvT K I H γ (L2.wipe σ vs) L → EnvT K I H γ σ L
  | [], _, h => h
  | v :: vs, q, h => by
    simp only [List.all_cons, Bool.and_eq_true] at q
    exact EnvT.unwipe q.2 (EnvT.unset none v q.1 h)
/-- a list that is being made, beside steps -/
theorem WS.side {p : Addr} {xs : List V} (w : WS K γ σ I H L) (hp : H p = some (.lst xs)) (hI : I p = none) (hL : p ∉ L) {I' H' : Hp} {L' : List Addr} (s : Step I H L I' H' L') : H' p = some (.lst xs) ∧ I' p = none ∧ p ∉ L' := by
  refine ⟨s.keep p _ hp hL, ?_, fun h => (s.l p h).elim hL fun z => by rw [hp] at z; cases z⟩
  cases e : I' p with
  | none => rfl
  | some o =>
    rcases s.n p o e with q | q | q
    · rw [hI] at q; cases q
    · exact absurd q hL
    · rw [hp] at q; cases q
/-- the world where p holds another list -/
theorem WS.poke {p : Addr} {o : HO} (w : WS K γ σ I H L) (hI : I p = none) (hL : p ∉ L) : WS K γ σ I (upd H p o) L :=
  ⟨w.env.keep (Ex.refl I) fun a h => upd_ne fun e => hL (e ▸ h), w.nd, w.fr, fun a u h => by rw [upd_ne (ne_of_none h hI)]; exact w.sub a u h⟩
theorem ef_lcE {wi : TI} {g : TG} {vs : List Nat} {it : List T → Option (List D × List T)} {fg : D → List T → Option (List T)} {c : List T → Option (Bool × List T)} {f : List T → Option (T × List T)} (hi : ItE K wi it) (hg : RgS K vs g fg) (hc : EfT K tt c) (hf : Ef K te f) : Ef K (tLc wi g tt te vs) (eLc vs it fg c f) := fun γ t γ' e σ I H L W0 Q q => by
  unfold eLc at e
  split at e
  · rename_i hem0
    obtain ⟨⟨ds, γ0⟩, e1, e⟩ := Option.bind_eq_some_iff.mp e
    split at e
    · rename_i hz
      obtain ⟨hem, hz⟩ := hz
      replace hz : ds.length < sizeLine := hz
      obtain ⟨⟨zs, γe⟩, e2, e⟩ := Option.bind_eq_some_iff.mp e
      split at e
      · rename_i hem2
        cases e
        refine hi γ ds γ0 e1 σ I H L W0 _ fun J I1 H1 L0 Gd Y w1 s0 hG hw hy Dl hD => ?_
        have hDL : Dl ∉ L0 := fun h => w1.live Dl h hD
        -- the steps go beside the list that is made: over the heap with it
        refine lc_it hw (fun i H' => ∃ γi I' L' acc ys rest, WS K γi (wipe σ vs) I' H' L' ∧ Step I1 H1 L0 I' H' L' ∧ I' Dl = none ∧ Dl ∉ L' ∧ H' Dl = some (.lst acc) ∧ IsA K I' acc ys ∧ ys.length ≤ i ∧ lcE vs fg c f (ds.drop i) γi = some (rest, γe) ∧ zs = ys ++ rest) ?_ (fun i H' _ q => ?_) (fun i x H' H2 hin q y => ?_) fun H' q' => ?_
        · refine ⟨γ0, I1, L0, [], [], zs, ?_, ⟨Ex.refl I1, fun a o h _ => Ex.new hD a o h, fun a h => .inl h, fun a o h => .inl h⟩, w1.sub.back hD, hDL, upd_same, .nil, by simp, by simpa using e2, rfl⟩
          have := w1.poke (o := .lst []) (w1.sub.back hD) hDL
          exact ⟨this.env.wipe hem, this.nd, this.fr, this.sub⟩
        · obtain ⟨γi, I', L', acc, ys, rest, w', s', _⟩ := q
          exact hG H' (s'.i.trans w'.sub)
        · obtain ⟨γi, I', L', acc, ys, rest, w', s', hID, hDL', hHD, hA, hyl, hrest, hzs⟩ := q
          obtain ⟨d, I3, hd, n3, e3, hv⟩ := hy i I' H' x H2 hin s'.i w'.sub y
          have hdrop : ds.drop i = d :: ds.drop (i + 1) := by
            obtain ⟨hlt, hde⟩ := List.getElem?_eq_some_iff.mp hd
            rw [List.drop_eq_getElem_cons hlt, hde]
          rw [hdrop] at hrest
          unfold lcE at hrest
          obtain ⟨γ1, g1, hrest⟩ := Option.bind_eq_some_iff.mp hrest
          obtain ⟨⟨b, γ2⟩, g2, hrest⟩ := Option.bind_eq_some_iff.mp hrest
          have w3 := w'.new n3 e3
          obtain ⟨hD3, hI3, hL3⟩ := w'.side hHD hID hDL' (n3.stp (L := L'))
          have s3 : Step I1 H1 L0 I3 H2 L' := s'.trans n3.stp
          refine hg d γi γ1 g1 x _ I3 H2 L' w3 hv _ fun σ2 L4 w4 s4 a4 => ?_
          have ea : wipe σ2 vs = wipe σ vs := (wipe_agr a4).trans (wipe_idem vs σ)
          refine ⟨ea, ?_⟩
          obtain ⟨hD4, hI4, hL4⟩ := w3.side hD3 hI3 hL3 s4
          refine hc γ1 b γ2 g2 σ2 I3 H2 L4 w4 _ fun I5 H5 L5 w5 s5 => ?_
          obtain ⟨hD5, hI5, hL5⟩ := w4.side hD4 hI4 hL4 s5
          have s35 := (s3.trans s4).trans s5
          cases b with
          | true =>
            obtain ⟨⟨t6, γ3⟩, g3, hrest⟩ := Option.bind_eq_some_iff.mp (show (f γ2).bind (fun q => q.1.toD.bind fun y => (lcE vs fg c f (ds.drop (i + 1)) (unset vs q.2)).map fun r => (y :: r.1, r.2)) = some (rest, γe) from hrest)
            obtain ⟨y1, g4, hrest⟩ := Option.bind_eq_some_iff.mp hrest
            cases g5 : lcE vs fg c f (ds.drop (i + 1)) (unset vs γ3) with
            | none => simp [g5] at hrest
            | some r =>
              obtain ⟨rs, γr⟩ := r
              simp [g5] at hrest
              obtain ⟨rfl, rfl⟩ := hrest
              show te σ2 H5 _
              refine hf γ2 t6 γ3 g3 σ2 I5 H5 L5 w5 _ fun u I6 H6 L6 w6 s6 => ?_
              obtain ⟨hD6, hI6, hL6⟩ := w5.side hD5 hI5 hL5 s6
              obtain ⟨I7, L7, w7, s7, hu⟩ := w6.frz g4
              obtain ⟨hD7, hI7, hL7⟩ := w6.side hD6 hI6 hL6 s7
              obtain ⟨L8, w8, s8⟩ := w7.wipeU (vs := vs)
              obtain ⟨hD8, hI8, hL8⟩ := w7.side hD7 hI7 hL7 s8
              rw [ea] at w8
              have sAll := (((s35.trans s6).trans s7).trans s8)
              refine ⟨acc, hD6, by rw [hA.length]; omega, unset vs γ3, I7, L8, acc ++ [u], ys ++ [y1], rs, w8.poke hI8 hL8, ⟨sAll.i, fun a o h hl => ?_, sAll.l, sAll.n⟩, hI8, hL8, upd_same, ?_, by simp; omega, g5, by rw [hzs]; simp⟩
              · rw [upd_ne (ne_of_none h hD)]
                exact sAll.keep a o h hl
              · exact IsA.append (hA.mono (((n3.i.trans s4.i).trans s5.i).trans (s6.i.trans s7.i))) (.cons hu .nil)
          | false =>
            show ∃ γi I' L' acc ys rest, _
            obtain ⟨L8, w8, s8⟩ := w5.wipeU (vs := vs)
            obtain ⟨hD8, hI8, hL8⟩ := w5.side hD5 hI5 hL5 s8
            rw [ea] at w8
            exact ⟨unset vs γ2, I5, L8, acc, ys, rest, w8, s35.trans s8, hI8, hL8, hD8, hA.mono ((n3.i.trans s4.i).trans s5.i), by omega, by simpa using hrest, hzs⟩
        · obtain ⟨γi, I', L', acc, ys, rest, w', s', hID, hDL', hHD, hA, _, hrest, hzs⟩ := q'
          rw [List.drop_length] at hrest
          cases hrest
          rw [List.append_nil] at hzs
          subst hzs
          have w2 : WS K γe σ I' H' L' := ⟨w'.env.unwipe hem2, w'.nd, w'.fr, w'.sub⟩
          refine q (.ref Dl) I' H' (Dl :: L') ⟨.cons (L1 := [Dl]) (.lst hHD hA) w2.env, List.nodup_cons.mpr ⟨hDL', w2.nd⟩, fun b hb => ?_, w2.sub⟩ (s0.trans ⟨s'.i, s'.keep, fun b hb => ?_, s'.n⟩)
          · rcases List.mem_cons.mp hb with rfl | hb
            · exact hID
            · exact w2.fr b hb
          · rcases List.mem_cons.mp hb with rfl | hb
            · exact .inr hD
            · exact s'.l b hb
      · cases e
    · cases e
  · cases e
theorem At.det : ∀ {p : Pth} {t : T} {a v w : V}, At H a t p v → At H a t p w → v = w
  | [], _, _, _, _, h, h' => by cases h; cases h'; rfl
  | i :: p, _, _, _, _, h, h' => by
    cases h with
    | dic h1 h2 h3 h4 =>
      cases h' with
      | dic g1 g2 g3 g4 =>
        rw [h1] at g1
        cases g1
        rw [h2] at g2
        cases g2
        rw [h3] at g3
        cases g3
        exact At.det h4 g4
    | obj h1 h2 h3 h4 =>
      cases h' with
      | obj g1 g2 g3 g4 =>
        rw [h1] at g1
        cases g1
        rw [h2] at g2
        cases g2
        rw [h3] at g3
        cases g3
        exact At.det h4 g4
/-- the tree at a place whose value is v -/
theorem WS.placeV {i : Nat} {p : Pth} {u t : T} {v0 : V} (w : WS K γ σ I H L) (h : gAt γ i p = some u) (hu : u ≠ .em) (h1 : σ[i]? = some (some v0)) (h2 : γ[i]? = some t) (h3 : At H v0 t p v) : ∃ Li, Ow K I H v u Li ∧ Li.Nodup ∧ (∀ a ∈ Li, I a = none) ∧
    ∀ (I' H' : Hp) (u' : T) (Li' : List Addr), Step I H Li I' H' Li' → Li'.Nodup → (∀ a ∈ Li', I' a = none) → Ex I' H' → Ow K I' H' v u' Li' → ∃ L', WS K (gPut γ i p u') σ I' H' L' ∧ Step I H L I' H' L' := by
  obtain ⟨v0', v', t', g1, g2, g3, r⟩ := w.place h hu
  rw [h1] at g1
  cases g1
  rw [h2] at g2
  cases g2
  cases At.det h3 g3
  exact r
def lVar (i : Nat) : List T → Option (Nat × Pth) := fun γ => match γ[i]? with
  | some .em => none
  | some _ => some (i, [])
  | none => none
theorem lo_var (i : Nat) : Lo K (tVar i) (lVar i) := fun γ j p e σ I H L w Q k => by
  unfold lVar at e
  split at e
  · cases e
  · rename_i t ne h
    cases e
    obtain ⟨v, h1, _⟩ := w.env.get h (fun z => ne z)
    exact ⟨v, h1, k v v t h1 h .nil⟩
  · cases e
/-- pure steps leave places -/
theorem At.keep {H' : Hp} (e : Ex H H') : ∀ {p : Pth} {t : T} {a v : V}, At H a t p v → At H' a t p v
  | _, _, _, _, .nil => .nil
  | _, _, _, _, .dic h1 h2 h3 h4 => .dic (e _ _ h1) h2 h3 (At.keep e h4)
  | _, _, _, _, .obj h1 h2 h3 h4 => .obj (e _ _ h1) h2 h3 (At.keep e h4)
/-- what is at a place, read at the top -/
def cPl (l : List T → Option (Nat × Pth)) : List T → Option D := fun γ => (l γ).bind fun p => (gAt γ p.1 p.2).bind T.top
/-- l.append(e), e pure -/
def sApp (l : List T → Option (Nat × Pth)) (f : List T → Option D) : List T → Option O := fun γ => (l γ).bind fun p => (f γ).bind fun x => (gAt γ p.1 p.2).bind fun u => match u with
  | .lst ds => if ds.length < sizeLine then some (.nx (gPut γ p.1 p.2 (.lst (ds ++ [x])))) else none
  | _ => none
theorem WS.wrL {i : Nat} {p : Pth} {t : T} {v0 : V} {ds ds' : List D} {xs' : List V} (w : WS K γ σ I H L) (h : gAt γ i p = some (.lst ds)) (h1 : σ[i]? = some (some v0)) (h2 : γ[i]? = some t) (h3 : At H v0 t p v) : ∃ a xs, v = .ref a ∧ H a = some (.lst xs) ∧ IsA K I xs ds ∧ (IsA K I xs' ds' → ∃ L', WS K (gPut γ i p (.lst ds')) σ I (upd H a (.lst xs')) L' ∧ Step I H L I (upd H a (.lst xs')) L') := by
  obtain ⟨Li, h4, nd, fr, fin⟩ := w.placeV h (fun z => nomatch z) h1 h2 h3
  cases h4 with
  | @lst a xs _ h5 h6 =>
    refine ⟨a, xs, rfl, h5, h6, fun hx' => fin I (upd H a (.lst xs')) (.lst ds') [a] ⟨Ex.refl I, fun b o e hb => ?_, fun b hb => .inl hb, fun b o e => .inl e⟩ nd fr (fun b o e => ?_) (.lst upd_same hx')⟩
    · rw [upd_ne (by simpa using hb)]
      exact e
    · rw [upd_ne (ne_of_none e (fr a (by simp)))]
      exact w.sub b o e
/-- x.append(e), x a slot -/
def sAppV (i : Nat) (f : List T → Option (T × List T)) : List T → Option O := fun γ => match γ[i]? with
  | some (.lst _) => (f γ).bind fun q => q.1.toD.bind fun x => (match q.2[i]? with
    | some (.lst ds) => if ds.length < sizeLine then some (.nx (q.2.set i (.lst (ds ++ [x])))) else none
    | _ => none)
  | _ => none
theorem gAt_nil {i : Nat} {t : T} (h : γ[i]? = some t) : gAt γ i [] = some t := by unfold gAt; rw [h]; rfl
theorem gPut_nil {i : Nat} {t u : T} (h : γ[i]? = some t) : gPut γ i [] u = γ.set i u := by unfold gPut; rw [h]; rfl
theorem rs_appV {i : Nat} {f : List T → Option (T × List T)} (hf : Ef K te f) : RunS K wr W (tDrop (tBM K "list" rAppend (tVar i) (tCons te tNil))) (sAppV i f) := fun γ o e σ I H L w Dn q => by
  unfold sAppV at e
  split at e
  · rename_i ds0 h0
    obtain ⟨⟨t, γ1⟩, e1, e⟩ := Option.bind_eq_some_iff.mp e
    obtain ⟨x, e2, e⟩ := Option.bind_eq_some_iff.mp e
    dsimp only at e
    split at e
    · rename_i ds hd
      split at e
      · rename_i hz
        cases e
        obtain ⟨v, h1, Li, h2, _⟩ := w.stepSlot h0 (fun z => nomatch z)
        cases h2 with
        | @lst a xs0 _ h2 h3 =>
          refine ⟨_, h1, .inl ⟨rfl, _, sq_of h2⟩, hf γ t γ1 e1 σ I H L w _ fun y I1 H1 L1 w1 s1 => ?_⟩
          obtain ⟨I2, L2, w2, s2, hy⟩ := w1.frz e2
          obtain ⟨a', xs, ea, h6, h7, _⟩ := w2.wrL (ds' := []) (xs' := []) (gAt_nil hd) h1 hd .nil
          cases ea
          obtain ⟨_, xs', ea, h6', h7', fin⟩ := w2.wrL (ds' := ds ++ [x]) (xs' := xs ++ [y]) (gAt_nil hd) h1 hd .nil
          cases ea
          rw [h6] at h6'
          cases h6'
          obtain ⟨L3, w3, s3⟩ := fin (h7.append (.cons hy .nil))
          rw [gPut_nil hd] at w3
          exact ⟨a, xs, y, rfl, rfl, h6, by rw [h7.length]; exact hz, q σ I2 _ L3 w3 ((s1.trans s2).trans s3) (.refl σ)⟩
      · cases e
    · cases e
  · cases e
/-- xs[j] = e -/
def sSetI (i : Nat) (f : List T → Option (T × List T)) (g : List T → Option D) : List T → Option O := fun γ => (f γ).bind fun q => q.1.toD.bind fun x => match q.2[i]? with
  | some (.lst ds) => (g q.2).bind fun k => (match k with
    | .int k => (ixN ds.length k).map fun j => .nx (q.2.set i (.lst (ds.set j x)))
    | _ => none)
  | _ => none
theorem rs_setI {i : Nat} {f : List T → Option (T × List T)} {g : List T → Option D} (hf : Ef K te f) (hg : Pu K tx g) : RunS K wr W (tAsg te (gSub (tVar i) tx rSetL)) (sSetI i f g) := fun γ o e σ I H L w Dn q => by
  unfold sSetI at e
  obtain ⟨⟨t, γ1⟩, e1, e⟩ := Option.bind_eq_some_iff.mp e
  obtain ⟨x, e2, e⟩ := Option.bind_eq_some_iff.mp e
  dsimp only at e
  split at e
  · rename_i ds hd
    obtain ⟨k, e3, e⟩ := Option.bind_eq_some_iff.mp e
    cases k <;> simp at e
    rename_i k
    obtain ⟨j, e4, rfl⟩ := e
    refine hf γ t γ1 e1 σ I H L w _ fun y I1 H1 L1 w1 s1 => ?_
    obtain ⟨I2, L2, w2, s2, hy⟩ := w1.frz e2
    obtain ⟨v, h1, _⟩ := w2.stepSlot hd (fun z => nomatch z)
    refine ⟨v, h1, hg γ1 _ e3 σ I2 H1 L2 w2 _ fun kv I3 H3 n3 s3 hk => ?_⟩
    cases hk
    have w3 := w2.new n3 s3
    obtain ⟨a, xs, rfl, h6, h7, _⟩ := w3.wrL (ds' := []) (xs' := []) (gAt_nil hd) h1 hd .nil
    obtain ⟨_, xs', ea, h6', h7', fin⟩ := w3.wrL (ds' := ds.set j x) (xs' := xs.set j y) (gAt_nil hd) h1 hd .nil
    cases ea
    rw [h6] at h6'
    cases h6'
    obtain ⟨L3, w4, s4⟩ := fin (h7.set j (hy.mono n3.i))
    rw [gPut_nil hd] at w4
    exact ⟨a, xs, k, j, rfl, rfl, h6, by rw [h7.length]; exact e4, q σ I3 _ L3 w4 ((s1.trans s2).trans (n3.stp.trans s4)) (.refl σ)⟩
  · cases e
/-- xs.pop(j) -/
def ePop (i : Nat) (f : List T → Option (T × List T)) : List T → Option (T × List T) := fun γ => match γ[i]? with
  | some (.lst _) => (f γ).bind fun q => q.1.toD.bind fun x => match x, q.2[i]? with
    | .int j, some (.lst ds) => if -(2 ^ 63) ≤ j ∧ j < 2 ^ 63 then (seqIndex? j ds.length).bind fun k => (ds[k]?).map fun y => (.d y, q.2.set i (.lst (ds.eraseIdx k))) else none
    | _, _ => none
  | _ => none
end
end FD
namespace FD
open PySem PySem.Spec PyProof.Rows L2
section
variable {K : PySem.W.Frag} {wr : List Nat} {W : WX'} {ta tb tc te to td ty tx : TE} {tt tu : TT} {ts tv : TS} {I I' H H' : Hp} {γ γ' : List T} {σ : Sg} {L : List Addr} {v : V} {x : D}
def oIsi2 (x y : D) : Option D := match y with
  | .raw (.ty T) => oIsi T x
  | _ => none
theorem isi2_t : ∀ x y z, oIsi2 x y = some z → OpT K (fun v w => rIsi K [v, w]) x y z := fun x y z e => isi_t "" x y z e
/-- a.join(xs) -/
def oJoin (x y : D) : Option D := match x with
  | .str a => (items y).bind fun ds => (allS ds).bind fun ys => if (ys.map (·.length)).sum + ys.length * a.length ≤ 16777216 then some (.str (Str.join a ys)) else none
  | _ => none
theorem join_t {y z : D} (e : oJoin x y = some z) : ∃ a ys ds, x = .str a ∧ items y = some ds ∧ ds = ys.map .str ∧ (ys.map (·.length)).sum + ys.length * a.length ≤ 16777216 ∧ z = .str (Str.join a ys) := by
  unfold oJoin at e
  split at e
  · obtain ⟨ds, e1, e⟩ := Option.bind_eq_some_iff.mp e
    obtain ⟨ys, e2, e⟩ := Option.bind_eq_some_iff.mp e
    split at e
    · rename_i h; cases e; exact ⟨_, _, _, rfl, e1, allS_eq e2, h, rfl⟩
    · cases e
  · cases e
theorem join_run {a : Str} {ys : List Str} {y : D} {ds : List D} {w : V} {Q : VK} (s : Ex I H) (hw : Tp K I H w y) (h1 : items y = some ds) (h2 : ds = ys.map .str) (hz : (ys.map (·.length)).sum + ys.length * a.length ≤ 16777216) (q : Q (.str (Str.join a ys)) H) : rJoin K (.str a) [w] H Q := by
  obtain ⟨p, xs, rfl, h3, h4⟩ := hw.seq s h1
  rw [h2] at h4
  rw [isA_strs.mp h4] at h3
  exact ⟨a, p, ys, rfl, rfl, h3, hz, by rw [TL.join_eq]; exact q⟩
def eJoin (f : List T → Option D) (g : List T → Option (T × List T)) : List T → Option (T × List T) := fun γ => (f γ).bind fun x => (g γ).bind fun q => q.1.toD.bind fun y => (oJoin x y).map fun z => (.d z, q.2)
theorem ef_join {f : List T → Option D} {g : List T → Option (T × List T)} (hf : Pu K to f) (hg : Ef K te g) : Ef K (tM1 (rJoin K) to te) (eJoin f g) := fun γ t γ' e σ I H L w Q k => by
  unfold eJoin at e
  obtain ⟨x, e1, e⟩ := Option.bind_eq_some_iff.mp e
  obtain ⟨⟨u, γ1⟩, e2, e⟩ := Option.bind_eq_some_iff.mp e
  obtain ⟨y, e3, e⟩ := Option.bind_eq_some_iff.mp e
  cases e4 : oJoin x y with
  | none => simp [e4] at e
  | some z =>
    simp [e4] at e
    obtain ⟨rfl, rfl⟩ := e
    obtain ⟨a, ys, ds, rfl, h1, h2, hz, rfl⟩ := join_t e4
    refine hf γ _ e1 σ I H L w _ fun v I1 H1 n1 s1 hv => ?_
    cases hv
    refine ⟨⟨a, rfl⟩, hg γ u γ1 e2 σ I1 H1 L (w.new n1 s1) _ fun v2 I2 H2 L2 w2 s2 => ?_⟩
    obtain ⟨I3, L3, w3, s3, hv2⟩ := w2.frz e3
    exact join_run w3.sub (.is hv2) h1 h2 hz (k _ I3 H2 L3 (w3.front (.str _)) (n1.stp.trans (s2.trans s3)))
end
end FD
namespace FD
open PySem PySem.Spec PyProof.Rows L2
structure ClsF (K : PySem.W.Frag) (C : Addr) (ns : List Str) : Prop where
  cls : Cls K C
  no : ∀ f ∈ ns, NoAttr K C f
  nd : ns.Nodup
section
variable {K : PySem.W.Frag} {wr : List Nat} {W : WX'} {ta tb tc te to td ty tx : TE} {tt tu : TT} {ts tv : TS} {I I' H H' : Hp} {γ γ' : List T} {σ : Sg} {L : List Addr} {v : V} {x : D} {C : Addr} {ns : List Str} {fn : Str}
theorem lookup_fs : ∀ {fs : List (Str × V)} {i : Nat} {f : Str} {v : V}, (fs.map (·.1)).Nodup → (fs.map (·.1))[i]? = some f → (fs.map (·.2))[i]? = some v → fs.lookup f = some v
  | [], i, _, _, _, h, _ => by simp at h
  | (n, w) :: fs, 0, f, v, _, h, h' => by simp at h h'; subst h h'; simp [List.lookup_cons]
  | (n, w) :: fs, i + 1, f, v, nd, h, h' => by
    simp only [List.map_cons, List.nodup_cons] at nd
    simp only [List.map_cons, List.getElem?_cons_succ] at h h'
    have ne : (f == n) = false := beq_eq_false_iff_ne.mpr fun e => nd.1 (e ▸ List.mem_of_getElem? h)
    rw [List.lookup_cons, ne]
    exact lookup_fs nd.2 h h'
theorem lookup_no : ∀ {fs : List (Str × V)} {f : Str}, f ∉ fs.map (·.1) → fs.lookup f = none
  | [], _, _ => rfl
  | (n, w) :: fs, f, h => by
    simp only [List.map_cons, List.mem_cons, not_or] at h
    have ne : (f == n) = false := beq_eq_false_iff_ne.mpr h.1
    rw [List.lookup_cons, ne]
    exact lookup_no h.2
/-- e.f, e data -/
def pFld (C : Addr) (ns : List Str) (i : Nat) (g : List T → Option D) : List T → Option D := fun γ => (g γ).bind fun x => match x with
  | .ins C' ns' ds => if C' = C ∧ ns' = ns then ds[i]? else none
  | _ => none
theorem pu_fld {i : Nat} {g : List T → Option D} (c : ClsF K C ns) (hi : ns[i]? = some fn) (hg : Pu K te g) : Pu K (tFld K te fn) (pFld C ns i g) := fun γ z e σ I H L w Q k => by
  unfold pFld at e
  replace e := Option.bind_eq_some_iff.mp e
  obtain ⟨x, e1, e⟩ := e
  split at e
  · split at e
    · rename_i C' ns' ds hc
      obtain ⟨rfl, rfl⟩ := hc
      refine hg γ _ e1 σ I H L w _ fun v I1 H1 n1 s1 hv => ?_
      cases hv with
      | @ins a _ dx fs _ _ h1 h2 h3 =>
        obtain ⟨u, hu, hz⟩ := h3.getD e
        subst h2
        exact ⟨a, _, dx, fs, u, rfl, s1 _ _ h1, c.cls, c.no _ (List.mem_of_getElem? hi), lookup_fs c.nd hi hu, k u I1 H1 n1 s1 hz⟩
    · cases e
  · cases e
/-- e.f, e at a place -/
def cFldL (C : Addr) (ns : List Str) (i : Nat) (l : List T → Option (Nat × Pth)) : List T → Option D := fun γ => (l γ).bind fun p => match gAt γ p.1 p.2 with
  | some (.obj C' ns' ts) => if C' = C ∧ ns' = ns then (ts[i]?).bind T.top else none
  | some (.d (.ins C' ns' ds)) => if C' = C ∧ ns' = ns then ds[i]? else none
  | _ => none
def pFldL (C : Addr) (ns : List Str) (i : Nat) (l : List T → Option (Nat × Pth)) : List T → Option D := fun γ => (l γ).bind fun p => match gAt γ p.1 p.2 with
  | some (.obj C' ns' ts) => if C' = C ∧ ns' = ns then (match ts[i]? with
    | some (.d x) => some x
    | _ => none) else none
  | some (.d (.ins C' ns' ds)) => if C' = C ∧ ns' = ns then ds[i]? else none
  | _ => none
theorem OwA.at_ : ∀ {ts : List T} {vs : List V} {L : List Addr} {i : Nat} {t : T}, OwA K I H vs ts L → ts[i]? = some t → ∃ v Li, vs[i]? = some v ∧ Ow K I H v t Li := fun h e => by
  obtain ⟨v, h1, _, Li, _, _, h2, _⟩ := h.get e
  exact ⟨v, Li, h1, h2⟩
/-- the place of a field -/
def lFld (C : Addr) (ns : List Str) (i : Nat) (l : List T → Option (Nat × Pth)) : List T → Option (Nat × Pth) := fun γ => (l γ).bind fun p => match gAt γ p.1 p.2 with
  | some (.obj C' ns' ts) => if C' = C ∧ ns' = ns then (match ts[i]? with
    | some .em => none
    | some _ => some (p.1, p.2 ++ [i])
    | none => none) else none
  | _ => none
theorem At.snoc {i : Nat} {a dx C : Addr} {fs : List (Str × V)} {ns : List Str} {ts : List T} {y : V} {u : T} : ∀ {p : Pth} {t : T} {v0 : V}, At H v0 t p (.ref a) → t.at_ p = some (.obj C ns ts) → H a = some (.ins C dx fs) → (fs.map (·.2))[i]? = some y → ts[i]? = some u → At H v0 t (p ++ [i]) y
  | [], t, v0, h, e, h1, h2, h3 => by
    cases h
    cases e
    exact .obj h1 h2 h3 .nil
  | j :: p, t, v0, h, e, h1, h2, h3 => by
    cases h with
    | dic g1 g2 g3 g4 =>
      rw [T.at_] at e
      simp only [T.kids] at e
      rw [g3] at e
      exact .dic g1 g2 g3 (At.snoc g4 e h1 h2 h3)
    | obj g1 g2 g3 g4 =>
      rw [T.at_] at e
      simp only [T.kids] at e
      rw [g3] at e
      exact .obj g1 g2 g3 (At.snoc g4 e h1 h2 h3)
theorem lo_fld {i : Nat} {l : List T → Option (Nat × Pth)} (c : ClsF K C ns) (hi : ns[i]? = some fn) (hl : Lo K te l) : Lo K (tFld K te fn) (lFld C ns i l) := fun γ s' p' e σ I H L w Q k => by
  unfold lFld at e
  replace e := Option.bind_eq_some_iff.mp e
  obtain ⟨⟨s, p⟩, e1, e⟩ := e
  dsimp only at e
  refine hl γ s p e1 σ I H L w _ fun v v0 t h1 h2 h3 => ?_
  split at e
  · rename_i C' ns' ts e2
    split at e
    · rename_i hc
      obtain ⟨rfl, rfl⟩ := hc
      have key : ∀ u, ts[i]? = some u → s' = s → p' = p ++ [i] → tFld K (fun _ H Q => Q v H) fn σ H Q := fun u e3 es ep => by
        subst es ep
        obtain ⟨Li, h4, _⟩ := w.placeV e2 (fun z => nomatch z) h1 h2 h3
        cases h4 with
        | @obj a dx fs _ _ _ L' g0 g1 g2 g3 g4 =>
          obtain ⟨y, Ly, hy, oy⟩ := g4.at_ e3
          subst g3
          have e2' : t.at_ p = some (.obj C' (fs.map (·.1)) ts) := by
            unfold gAt at e2
            rw [h2] at e2
            exact e2
          exact ⟨a, _, dx, fs, y, rfl, g1, c.cls, c.no _ (List.mem_of_getElem? hi), lookup_fs c.nd hi hy, k y v0 t h1 h2 (At.snoc h3 e2' g1 hy e3)⟩
      split at e
      · cases e
      · rename_i u ne e3
        cases e
        exact key u e3 rfl rfl
      · cases e
    · cases e
  · cases e
/-- of data -/
def pMeth (C : Addr) (ns : List Str) (g : FN) (f : List T → Option D) (a : List T → Option (List D)) : List T → Option D := fun γ => (f γ).bind fun x => match x with
  | .ins C' ns' ds => if C' = C ∧ ns' = ns then (a γ).bind fun xs => (match g (.d (.ins C' ns' ds) :: xs.map .d) with
    | some (.ret r _) => r.toD
    | _ => none) else none
  | _ => none
theorem pu_meth {m : Str} {g : FN} {f : List T → Option D} {a : List T → Option (List D)} {tr : TA} {E : XK} (hm : m ∉ ns) (hf : Pu K to f) (ha : PuA K tr a) : Pu K (tMeth C m (spF K g) [] E to tr) (pMeth C ns g f a) := fun γ z e σ I H L w Q k => by
  unfold pMeth at e
  replace e := Option.bind_eq_some_iff.mp e
  obtain ⟨x, e1, e⟩ := e
  split at e
  · rename_i C' ns' ds
    split at e
    · rename_i hc
      obtain ⟨rfl, rfl⟩ := hc
      replace e := Option.bind_eq_some_iff.mp e
      obtain ⟨xs, e2, e⟩ := e
      split at e
      · rename_i r post hg
        refine hf γ _ e1 σ I H L w _ fun v I1 H1 n1 s1 hv => ?_
        cases id hv with
        | @ins p _ dx fs _ _ g1 g2 g3 =>
          refine ⟨p, dx, fs, rfl, s1 _ _ g1, lookup_no (g2 ▸ hm), ha γ xs e2 σ I1 H1 L (w.new n1 s1) _ fun vs I2 H2 n2 s2 hvs => ?_⟩
          rw [List.append_nil]
          exact spF_pure (xs := .ins _ _ ds :: xs) s2 (.cons (hv.mono n2.i) hvs) hg e fun u I3 H3 n s h => k u I3 H3 ((n1.trans n2).trans n) s h
      · cases e
    · cases e
  · cases e
/-- of a slot's own object -/
def eMeth (C : Addr) (ns : List Str) (g : FN) (i : Nat) (bs : List (Option Nat)) (a : List T → Option (List T × List T)) : List T → Option (T × List T) := fun γ => match γ[i]? with
  | some (.obj C' ns' _) => if C' = C ∧ ns' = ns then (a γ).bind fun q => callF g (some i :: bs) (.em :: q.1) q.2 else none
  | some (.d (.ins C' ns' _)) => if C' = C ∧ ns' = ns then (a γ).bind fun q => callF g (some i :: bs) (.em :: q.1) q.2 else none
  | _ => none
/-- of an object at a place, the arguments data -/
def eMethL (C : Addr) (ns : List Str) (g : FN) (l : List T → Option (Nat × Pth)) (a : List T → Option (List D)) : List T → Option (T × List T) := fun γ => (l γ).bind fun p => match gAt γ p.1 p.2 with
  | some (.obj C' ns' ts) => if C' = C ∧ ns' = ns then (a γ).bind fun xs => (match g (.obj C' ns' ts :: xs.map .d) with
    | some (.ret r (u :: _)) => match u with
      | .em => none
      | u => r.toD.map fun y => (.d y, gPut γ p.1 p.2 u)
    | _ => none) else none
  | _ => none
end
end FD
namespace FD
open PySem PySem.Spec PyProof.Rows L2
section
variable {K : PySem.W.Frag} {wr : List Nat} {W : WX'} {ta tb tc te to td ty tx : TE} {tt tu : TT} {ts tv : TS} {I I' H H' : Hp} {γ γ' : List T} {σ : Sg} {L : List Addr} {t : T} {v : V} {x : D} {C : Addr} {ns : List Str} {fn : Str}
/-- a new empty object between the arguments and the slots -/
theorem WS.layO {ts : List T} {vs : Sg} {p dx : Addr} (w : WS K (ts ++ γ) (vs ++ σ) I H L) (hl : ts.length = vs.length) (hp : H p = none) (hd : H dx = none) (hne : dx ≠ p) :
    ∃ L', WS K (ts ++ .obj C [] [] :: γ) (vs ++ some (.ref p) :: σ) I (upd (upd H dx (.own p)) p (.ins C dx [])) L' ∧ Step I H L I (upd (upd H dx (.own p)) p (.ins C dx [])) L' := by
  obtain ⟨L1, L2, rfl, e1, e2⟩ := EnvT.split hl w.env
  have pn : ∀ a ∈ L1 ++ L2, a ≠ p := fun a h e => w.live a h (e ▸ hp)
  have dn : ∀ a ∈ L1 ++ L2, a ≠ dx := fun a h e => w.live a h (e ▸ hd)
  have kp : ∀ a, a ≠ p → a ≠ dx → upd (upd H dx (.own p)) p (.ins C dx []) a = H a := fun a h1 h2 => by rw [upd_ne h1, upd_ne h2]
  have ex : ∀ a u, H a = some u → upd (upd H dx (.own p)) p (.ins C dx []) a = some u := fun a u e => by
    rw [kp a (fun z => by subst z; rw [hp] at e; cases e) (fun z => by subst z; rw [hd] at e; cases e)]; exact e
  refine ⟨L1 ++ ([p, dx] ++ L2), ⟨EnvT.join (e1.keep (Ex.refl I) fun a h => kp a (pn a (by simp [h])) (dn a (by simp [h]))) (.cons (.obj (L := []) (Ne.symm hne) upd_same (by rw [upd_ne hne]; exact upd_same) rfl .nil) (e2.keep (Ex.refl I) fun a h => kp a (pn a (by simp [h])) (dn a (by simp [h])))), ?_, ?_, ?_⟩, ⟨Ex.refl I, fun a u e _ => ex a u e, fun a h => ?_, fun a u e => .inl e⟩⟩
  · have nd := List.nodup_append.mp w.nd
    refine List.nodup_append.mpr ⟨nd.1, List.nodup_append.mpr ⟨by simp [Ne.symm hne], nd.2.1, fun a h b h2 e => ?_⟩, fun a h b h2 e => ?_⟩
    · subst e
      simp at h
      rcases h with rfl | rfl
      · exact pn _ (by simp [h2]) rfl
      · exact dn _ (by simp [h2]) rfl
    · subst e
      simp at h2
      rcases h2 with rfl | rfl | h2
      · exact pn _ (by simp [h]) rfl
      · exact dn _ (by simp [h]) rfl
      · exact nd.2.2 a h a h2 rfl
  · intro a h
    simp at h
    rcases h with h | rfl | rfl | h
    · exact w.fr a (by simp [h])
    · exact w.sub.back hp
    · exact w.sub.back hd
    · exact w.fr a (by simp [h])
  · exact fun a u e => ex a u (w.sub a u e)
  · simp at h
    rcases h with h | rfl | rfl | h
    · exact .inl (by simp [h])
    · exact .inr hp
    · exact .inr hd
    · exact .inl (by simp [h])
theorem takeArgs_len : ∀ {bs : List (Option Nat)} {ts γ : List T} {q : List T × List T}, takeArgs bs ts γ = some q → ts.length = bs.length
  | [], [], _, _, _ => rfl
  | [], _ :: _, _, _, e => by simp [takeArgs] at e
  | none :: _, [], _, _, e => by simp [takeArgs] at e
  | some _ :: _, [], _, _, e => by simp [takeArgs] at e
  | none :: bs, t :: ts, γ, q, e => by
    unfold takeArgs at e
    obtain ⟨r, h, _⟩ := Option.map_eq_some_iff.mp e
    simp [takeArgs_len h]
  | some i :: bs, t :: ts, γ, q, e => by
    unfold takeArgs at e
    split at e
    · obtain ⟨r, h, _⟩ := Option.map_eq_some_iff.mp e
      simp [takeArgs_len h]
    · cases e
    · obtain ⟨r, h, _⟩ := Option.map_eq_some_iff.mp e
      simp [takeArgs_len h]
    · cases e
/-- the heart of a maker -/
def makeF (C : Addr) (g : FN) (bs : List (Option Nat)) (ts γ : List T) : Option (T × List T) := (callF g (some 0 :: bs.map (Option.map (· + 1))) (.em :: ts) (.obj C [] [] :: γ)).bind fun q => match q with
  | (.d .non, o :: γ') => some (o, γ')
  | _ => none
theorem Bor.up {y : Option V} : ∀ {bs : List (Option Nat)} {vs : List V}, Bor σ bs vs → Bor (y :: σ) (bs.map (Option.map (· + 1))) vs
  | [], _, h => h
  | none :: bs, _, ⟨v, ws, h, r⟩ => ⟨v, ws, h, Bor.up r⟩
  | some i :: bs, _, ⟨v, ws, h, h2, r⟩ => ⟨v, ws, h, h2, Bor.up r⟩
theorem make_ok {g : FN} {bs : List (Option Nat)} {ts : List T} {vs : List V} {o : T} {γ2 : List T} {p dx : Addr} (w : WS K (ts ++ γ) (vs.map some ++ σ) I H L) (hb : Bor σ bs vs) (e : makeF C g bs ts γ = some (o, γ2)) (hp : H p = none) (hd : H dx = none) (hne : dx ≠ p) {Q : VK} {E : XK} (k : ∀ I' H' L', WS K (o :: γ2) (some (.ref p) :: σ) I' H' L' → Step I H L I' H' L' → Q (.ref p) H') : spF K g (.ref p :: vs) (upd (upd H dx (.own p)) p (.ins C dx [])) (fun v H2 => v = .non ∧ Q (.ref p) H2) E := by
  unfold makeF at e
  replace e := Option.bind_eq_some_iff.mp e
  obtain ⟨⟨r, δ⟩, e1, e⟩ := e
  split at e
  · rename_i o' γ3 e3
    cases e
    cases e3
    have hl : ts.length = vs.length := by
      unfold callF at e1
      obtain ⟨q, e4, _⟩ := Option.bind_eq_some_iff.mp e1
      have h1 := takeArgs_len e4
      have h2 := hb.len
      simp at h1
      omega
    obtain ⟨L1, w1, s1⟩ := w.layO (C := C) (by simpa using hl) hp hd hne
    refine call_ok (bs := some 0 :: bs.map (Option.map (· + 1))) (ts := .em :: ts) (vs := .ref p :: vs) (σ := some (.ref p) :: σ) (γ := .obj C [] [] :: γ) ⟨.em _ w1.env, w1.nd, w1.fr, w1.sub⟩ ⟨_, vs, rfl, rfl, hb.up⟩ e1 fun v I2 H2 L2 w2 s2 => ?_
    obtain ⟨L3, w3, s3, hv⟩ := w2.tail
    obtain ⟨rfl, v', hv1, hv2⟩ := hv _ rfl
    cases hv1
    cases hv2
    exact ⟨rfl, k I2 H2 _ w3 ((s1.trans s2).trans s3)⟩
  · cases e
def tList (l : List TE) : TA := l.foldr tCons tNil
theorem tList_app : ∀ {l1 l2 : List TE} {σ : Sg} {H : Hp} {Q : List V → List V → Hp → Prop}, (tList l1 σ H fun vs H1 => tList l2 σ H1 fun zs H2 => Q vs zs H2) = tList (l1 ++ l2) σ H (fun ws H2 => Q (ws.take l1.length) (ws.drop l1.length) H2)
  | [], l2, σ, H, Q => rfl
  | a :: l1, l2, σ, H, Q => by
    show a σ H (fun v H1 => tList l1 σ H1 fun vs H1 => tList l2 σ H1 fun zs H2 => Q (v :: vs) zs H2) = a σ H (fun v H1 => tList (l1 ++ l2) σ H1 fun ws H2 => Q ((v :: ws).take (l1.length + 1)) ((v :: ws).drop (l1.length + 1)) H2)
    congr 1
    funext v H1
    exact tList_app (l1 := l1) (Q := fun vs zs H2 => Q (v :: vs) zs H2)
/-- arguments and defaults, woven -/
def weave {α β : Type} (f : β → α) : List (Option β) → List α → List α
  | [], _ => []
  | some b :: P, xs => f b :: weave f P xs
  | none :: P, x :: xs => x :: weave f P xs
  | none :: _, [] => []
def holes {β : Type} : List (Option β) → Nat
  | [] => 0
  | some _ :: P => holes P
  | none :: P => holes P + 1
theorem Bor.weave : ∀ {P : List (Option (V × D))} {bs : List (Option Nat)} {vs : List V}, Bor σ bs vs → bs.length = holes P → Bor σ (FD.weave (fun _ => none) P bs) (FD.weave (·.1) P vs)
  | [], bs, vs, h, e => rfl
  | some b :: P, bs, vs, h, e => ⟨_, _, rfl, Bor.weave h e⟩
  | none :: P, [], vs, h, e => by simp [holes] at e
  | none :: P, none :: bs, _, ⟨v, ws, rfl, r⟩, e => ⟨v, _, rfl, Bor.weave r (by simpa [holes] using e)⟩
  | none :: P, some i :: bs, _, ⟨v, ws, rfl, h2, r⟩, e => ⟨v, _, rfl, h2, Bor.weave r (by simpa [holes] using e)⟩
theorem EnvT.weave : ∀ {P : List (Option (V × D))} {ts : List T} {vs : List V} {L : List Addr}, (∀ q, some q ∈ P → Is K I q.1 q.2) → ts.length = holes P → vs.length = holes P → EnvT K I H (ts ++ γ) (vs.map some ++ σ) L → EnvT K I H (FD.weave (fun q => .d q.2) P ts ++ γ) ((FD.weave (·.1) P vs).map some ++ σ) L
  | [], [], [], L, _, _, _, h => h
  | [], _ :: _, _, _, _, e, _, _ => by simp [holes] at e
  | [], [], _ :: _, _, _, _, e, _ => by simp [holes] at e
  | some b :: P, ts, vs, L, hP, e1, e2, h => .cons (L1 := []) (.d (hP b (by simp))) (EnvT.weave (fun q h => hP q (by simp [h])) e1 e2 h)
  | none :: P, [], _, _, _, e, _, _ => by simp [holes] at e
  | none :: P, _ :: _, [], _, _, _, e, _ => by simp [holes] at e
  | none :: P, t :: ts, v :: vs, L, hP, e1, e2, h => by
    have e1' : ts.length = holes P := by simpa [holes] using e1
    have e2' : vs.length = holes P := by simpa [holes] using e2
    cases h with
    | em _ h => exact .em _ (EnvT.weave (fun q h => hP q (by simp [h])) e1' e2' h)
    | cons h1 h2 => exact .cons h1 (EnvT.weave (fun q h => hP q (by simp [h])) e1' e2' h2)
theorem weave_map {α β γ : Type} {f : β → α} {h : γ → β} : ∀ {P : List (Option γ)} {xs : List α}, weave f (P.map (Option.map h)) xs = weave (fun q => f (h q)) P xs
  | [], _ => rfl
  | some b :: P, xs => by simp [weave, weave_map (P := P)]
  | none :: P, [] => rfl
  | none :: P, x :: xs => by simp [weave, weave_map (P := P)]
theorem holes_map {β γ : Type} {h : γ → β} : ∀ {P : List (Option γ)}, holes (P.map (Option.map h)) = holes P
  | [] => rfl
  | some b :: P => by simp [holes, holes_map (P := P)]
  | none :: P => by simp [holes, holes_map (P := P)]
/-- C(a, .., k = b, ..) -/
def eMake (C : Addr) (g : FN) (P : List (Option D)) (bs : List (Option Nat)) (a : List T → Option (List T × List T)) : List T → Option (T × List T) := fun γ => (a γ).bind fun q => if bs.length = holes P ∧ q.1.length = holes P then makeF C g (weave (fun _ => none) P bs) (weave (fun x => .d x) P q.1) q.2 else none
theorem ef_makeK {g : FN} {P : List (Option (V × D))} {bs : List (Option Nat)} {a : List T → Option (List T × List T)} {l1 l2 : List TE} {n m : Nat} {gV : List V → List V → List V} {E : XK} (hP : ∀ I q, some q ∈ P → Is K I q.1 q.2) (ha : EfA K (tList (l1 ++ l2)) bs a) (hn : l1.length = n) (hm : l2.length = m) (hh : n + m = holes P)
    (hg : ∀ x vs zs, vs.length = n → zs.length = m → gV (x :: vs) zs = x :: weave (·.1) P (vs ++ zs)) : Ef K (tMakeK C n m (spF K g) gV E (tList l1) (tList l2)) (eMake C g (P.map (Option.map (·.2))) bs a) := fun γ t γ' e σ I H L w Q k => by
  unfold eMake at e
  rw [holes_map, weave_map] at e
  replace e := Option.bind_eq_some_iff.mp e
  obtain ⟨⟨ts, γ1⟩, e1, e⟩ := e
  split at e
  · rename_i hl
    show tList l1 σ H fun vs H1 => tList l2 σ H1 fun zs H2 => _
    rw [tList_app]
    refine ha γ ts γ1 e1 σ I H L w _ fun ws I1 H1 L1 w1 s1 hb => ?_
    have hw : ws.length = holes P := hb.len.trans hl.1
    have l1' : (ws.take l1.length).length = n := by simp; omega
    have l2' : (ws.drop l1.length).length = m := by simp; omega
    refine ⟨l1', l2', fun p dx hp hd hne => ?_⟩
    rw [hg _ _ _ l1' l2', List.take_append_drop]
    rw [weave_map] at e
    exact make_ok (ts := weave (fun p => .d p.2) P ts) ⟨EnvT.weave (hP I1) hl.2 hw w1.env, w1.nd, w1.fr, w1.sub⟩ (hb.weave hl.1) e hp hd hne fun I2 H2 L2 w2 s2 => k _ I2 H2 L2 w2 (s1.trans s2)
  · cases e
def putTs (f : Str) (t : T) : List Str → List T → List T
  | n :: ns, u :: us => if f = n then t :: us else u :: putTs f t ns us
  | _, _ => [t]
def putN (f : Str) : List Str → List Str
  | [] => [f]
  | n :: ns => if f = n then n :: ns else n :: putN f ns
theorem putF_names {f : Str} {y : V} : ∀ {fs : List (Str × V)}, (putF f y fs).map (·.1) = putN f (fs.map (·.1))
  | [] => by simp [putF, putN]
  | (n, u) :: fs => by
    by_cases h : f = n
    · subst h
      simp [putF, putN]
    · have h' : ¬n = f := fun e => h e.symm
      simp [putF, putN, h, h', putF_names (fs := fs)]
theorem OwA.put {f : Str} {y : V} {L1 : List Addr} (hy : Ow K I H y t L1) : ∀ {fs : List (Str × V)} {us : List T} {Lf : List Addr}, OwA K I H (fs.map (·.2)) us Lf → (Lf ++ L1).Nodup → ∃ L', L'.Nodup ∧ (∀ a ∈ L', a ∈ Lf ++ L1) ∧ OwA K I H ((putF f y fs).map (·.2)) (putTs f t (fs.map (·.1)) us) L'
  | [], us, Lf, h, nd => by
    cases h
    refine ⟨L1 ++ [], by simpa using nd, fun a h => by simpa using h, ?_⟩
    simp only [putF, putTs, List.map_cons, List.map_nil]
    exact .cons hy .nil
  | (n, u) :: fs, us, Lf, h, nd => by
    cases h with
    | @cons _ _ _ us' M1 M2 h1 h2 =>
      by_cases e : f = n
      · subst e
        refine ⟨L1 ++ M2, ?_, fun a h => ?_, ?_⟩
        · have := List.nodup_append.mp nd
          have n2 := List.nodup_append.mp this.1
          exact List.nodup_append.mpr ⟨this.2.1, n2.2.1, fun a h b h2 e => this.2.2 b (by simp [h2]) a h e.symm⟩
        · simp at h ⊢
          rcases h with h | h <;> simp [h]
        · simp only [putF, putTs, List.map_cons, if_pos]
          simpa [putF] using OwA.cons hy h2
      · have nd2 : (M2 ++ L1).Nodup := by
          have := List.nodup_append.mp nd
          have n2 := List.nodup_append.mp this.1
          exact List.nodup_append.mpr ⟨n2.2.1, this.2.1, fun a h b h2 e => this.2.2 a (by simp [h]) b h2 e⟩
        obtain ⟨L', g1, g2, g3⟩ := OwA.put (f := f) hy h2 nd2
        have e' : ¬n = f := fun z => e z.symm
        refine ⟨M1 ++ L', ?_, fun a h => ?_, ?_⟩
        · have := List.nodup_append.mp nd
          have n2 := List.nodup_append.mp this.1
          refine List.nodup_append.mpr ⟨n2.1, g1, fun a h b h2 e => ?_⟩
          subst e
          have := g2 a h2
          simp at this
          rcases this with z | z
          · exact n2.2.2 a h a z rfl
          · exact (List.nodup_append.mp nd).2.2 a (by simp [h]) a z rfl
        · simp at h ⊢
          rcases h with h | h
          · simp [h]
          · have := g2 a h
            simp at this
            rcases this with z | z <;> simp [z]
        · have := OwA.cons h1 g3
          simpa [putF, putTs, e, e'] using this
/-- self.f = e, self in a slot -/
def sFldO (C : Addr) (i : Nat) (f : Str) (g : List T → Option (T × List T)) : List T → Option O := fun γ => (g γ).bind fun q => match q.2[i]? with
  | some (.obj C' ns ts) => if C' = C ∧ ns.length < 1000 then some (.nx (q.2.set i (.obj C' (putN f ns) (putTs f q.1 ns ts)))) else none
  | _ => none
theorem put_nodup {L1 M1 Lf M2 L' : List Addr} {p dx : Addr} (nd : (L1 ++ (M1 ++ ((p :: dx :: Lf) ++ M2))).Nodup) (g1 : L'.Nodup) (g2 : ∀ a ∈ L', a ∈ Lf ++ L1) : (M1 ++ ((p :: dx :: L') ++ M2)).Nodup := by
  simp only [List.nodup_append, List.nodup_cons, List.mem_append, List.mem_cons, List.cons_append] at *
  grind
theorem rs_fldO {i : Nat} {f : Str} {g : List T → Option (T × List T)} (c : Cls K C) (hf : NoAttr K C f) (hg : Ef K te g) : RunS K wr W (sFld K (tVar i) te f) (sFldO C i f g) := fun γ o e σ I H L w Dn q => by
  unfold sFldO at e
  replace e := Option.bind_eq_some_iff.mp e
  obtain ⟨⟨t, γ1⟩, e1, e⟩ := e
  dsimp only at e
  split at e
  · rename_i C' ns us h0
    split at e
    · rename_i hc
      obtain ⟨rfl, hz⟩ := hc
      cases e
      refine hg γ t γ1 e1 σ I H L w _ fun y I1 H1 L0 w1 s1 => ?_
      have hb : ∃ L1 L2, L0 = L1 ++ L2 ∧ Ow K I1 H1 y t L1 ∧ EnvT K I1 H1 γ1 σ L2 := by
        have e2 := w1.env
        cases e2 with
        | em _ e2 => exact ⟨[], _, rfl, .em _, e2⟩
        | cons h1 h2 => exact ⟨_, _, rfl, h1, h2⟩
      obtain ⟨L1, L2, rfl, hy, eΓ⟩ := hb
      obtain ⟨v0, hσ, M1, Mi, M2, rfl, ow, hk2⟩ := eΓ.get h0 (fun z => nomatch z)
      cases ow with
      | @obj p dx fs _ _ _ Lf hne h3 h4 h5 h6 =>
        have nd := w1.nd
        have ndf : (Lf ++ L1).Nodup := by
          simp only [List.nodup_append, List.nodup_cons, List.mem_append, List.mem_cons, List.cons_append] at nd ⊢
          grind
        obtain ⟨L', g1, g2, g3⟩ := OwA.put (f := f) hy h6 ndf
        have pL' : p ∉ L' := fun h => by
          have := g2 p h
          simp only [List.nodup_append, List.nodup_cons, List.mem_append, List.mem_cons, List.cons_append] at nd this
          grind
        have pM : p ∉ M1 ++ M2 := fun h => by
          simp only [List.nodup_append, List.nodup_cons, List.mem_append, List.mem_cons, List.cons_append] at nd h
          grind
        refine ⟨_, hσ, p, C', dx, _, rfl, h3, c, hf, by rw [h5] at hz; simpa using hz, ?_⟩
        have ow2 : Ow K I1 (upd H1 p (.ins C' dx (putF f y fs))) (.ref p) (.obj C' (putN f ns) (putTs f t ns us)) (p :: dx :: L') := by
          subst h5
          exact .obj hne upd_same (by rw [upd_ne (Ne.symm hne)]; exact h4) putF_names.symm (g3.keep (Ex.refl _) fun a h => upd_ne fun e => pL' (e ▸ h))
        have en := hk2 I1 (upd H1 p (.ins C' dx (putF f y fs))) _ _ _ (Ex.refl _) (fun a h => upd_ne fun e => pM (e ▸ h)) ow2
        rw [FD.set_self hσ] at en
        have fp : I1 p = none := w1.fr p (by simp)
        refine q _ I1 _ (M1 ++ ((p :: dx :: L') ++ M2)) ⟨en, put_nodup nd g1 g2, fun a h => w1.fr a ?_, fun b o e => ?_⟩ (s1.trans ⟨Ex.refl _, fun b o e hb => ?_, fun b hb => .inl ?_, fun b o e => .inl e⟩) (.refl σ)
        · simp at h ⊢
          rcases h with h | h | h | h | h
          · simp [h]
          · simp [h]
          · simp [h]
          · have := g2 a h
            simp at this
            rcases this with z | z <;> simp [z]
          · simp [h]
        · rw [upd_ne (ne_of_none e fp)]
          exact w1.sub b o e
        · rw [upd_ne (fun z => hb (by simp [z]))]; exact e
        · simp at hb ⊢
          rcases hb with h | h | h | h | h
          · simp [h]
          · simp [h]
          · simp [h]
          · have := g2 b h
            simp at this
            rcases this with z | z <;> simp [z]
          · simp [h]
    · cases e
  · cases e
end
end FD
namespace FD
open PySem PySem.Spec PyProof.Rows L2
end FD
namespace FD
open PySem PySem.Spec PyProof.Rows L2
inductive EO where
  | ok (t : T) (γ : List T) | xc (C : Addr) (fs : List (Str × D)) (γ : List T)
section
variable {K : PySem.W.Frag} {wr : List Nat} {W : WX'} {ta tb tc te to td ty tx : TE} {tt tu : TT} {ts tv : TS} {I I' H H' : Hp} {γ γ' : List T} {σ : Sg} {L : List Addr} {t : T} {v : V} {x : D} {C : Addr} {ns : List Str} {fn : Str}
def xOk (f : List T → Option (T × List T)) : List T → Option EO := fun γ => (f γ).map fun q => .ok q.1 q.2
def callX (g : FN) (bs : List (Option Nat)) (ts γ : List T) : Option EO := (takeArgs bs ts γ).bind fun p => match g p.1 with
  | some (.ret r post) => if post.length = p.1.length then (backArgs bs p.1 post p.2).map fun γ2 => .ok r γ2 else none
  | some (.exc C fs post) => if post.length = p.1.length then (backArgs bs p.1 post p.2).map fun γ2 => .xc C fs γ2 else none
  | none => none
/-- f(a, ..) that may raise -/
def xCall (g : FN) (bs : List (Option Nat)) (a : List T → Option (List T × List T)) : List T → Option EO := fun γ => (a γ).bind fun q => callX g bs q.1 q.2
/-- the heart of a maker that may raise -/
def makeX (C : Addr) (g : FN) (bs : List (Option Nat)) (ts γ : List T) : Option EO := (callX g (some 0 :: bs.map (Option.map (· + 1))) (.em :: ts) (.obj C [] [] :: γ)).bind fun q => match q with
  | .ok (.d .non) (o :: γ') => some (.ok o γ')
  | .xc X fs (_ :: γ') => some (.xc X fs γ')
  | _ => none
def xMake (C : Addr) (g : FN) (P : List (Option D)) (bs : List (Option Nat)) (a : List T → Option (List T × List T)) : List T → Option EO := fun γ => (a γ).bind fun q => if bs.length = holes P ∧ q.1.length = holes P then makeX C g (weave (fun _ => none) P bs) (weave (fun x => .d x) P q.1) q.2 else none
def sExprX (f : List T → Option EO) : List T → Option O := fun γ => (f γ).map fun q => match q with
  | .ok _ γ' => .nx γ'
  | .xc C fs γ' => .xc C fs γ'
def sAsgX (i : Nat) (f : List T → Option EO) : List T → Option O := fun γ => (f γ).map fun q => match q with
  | .ok t γ' => .nx (γ'.set i t)
  | .xc C fs γ' => .xc C fs γ'
def sRetX (f : List T → Option EO) : List T → Option O := fun γ => (f γ).map fun q => match q with
  | .ok t γ' => .rt t γ'
  | .xc C fs γ' => .xc C fs γ'
theorem IsX.app {fs1 fs2 : List (Str × D)} : ∀ {k1 k2 : List (Str × V)}, IsX K I k1 fs1 → IsX K I k2 fs2 → IsX K I (k1 ++ k2) (fs1 ++ fs2) := by
  intro k1 k2 h1 h2
  induction h1 with
  | nil => exact h2
  | cons a _ ih => exact .cons a ih
theorem IsX.rev {kvs : List (Str × V)} {fs : List (Str × D)} (h : IsX K I kvs fs) : IsX K I kvs.reverse fs.reverse := by
  induction h with
  | nil => exact .nil
  | cons a _ ih => rw [List.reverse_cons, List.reverse_cons]; exact ih.app (.cons a .nil)
theorem IsX.zip : ∀ {ns : List Str} {vs : List V} {xs : List D}, IsA K I vs xs → IsX K I (ns.zip vs) (ns.zip xs)
  | [], _, _, _ => by simp; exact .nil
  | n :: ns, [], _, h => by cases h; exact .nil
  | n :: ns, v :: vs, _, h => by
    cases h with
    | cons h1 h2 => exact .cons h1 (IsX.zip h2)
/-- raise C(a, ..) -/
def sRaise (C : Addr) (ns : List Str) (a : List T → Option (List D)) : List T → Option O := fun γ => (a γ).bind fun xs => if xs.length = ns.length ∧ xs.length ≤ 1000 then some (.xc C (ns.zip xs).reverse γ) else none
def sTryO (cs : List (Addr × Bool)) (fb fh : List T → Option O) : List T → Option O := fun γ => (fb γ).bind fun o => match o with
  | .xc C fs γ1 => match cs.lookup C with
    | some true => fh γ1
    | some false => some (.xc C fs γ1)
    | none => none
  | o => some o
def oCl (i : Nat) : O → Option O
  | .nx γ => some (.nx (γ.set i .em))
  | .bk γ => some (.bk (γ.set i .em))
  | .ct γ => some (.ct (γ.set i .em))
  | .rt r γ => some (.rt r γ)
  | .xc _ _ _ => none
def sTryA (cs : List (Addr × Bool)) (i : Nat) (fb : List T → Option O) (fh : Addr → List (Str × D) → List T → Option O) : List T → Option O := fun γ => (fb γ).bind fun o => match o with
  | .xc C fs γ1 => match cs.lookup C with
    | some true => if i < γ1.length then (fh C fs (γ1.set i .em)).bind (oCl i) else none
    | some false => some (.xc C fs γ1)
    | none => none
  | o => some o
theorem IsX.look : ∀ {kvs : List (Str × V)} {fs : List (Str × D)} {f : Str} {x : D}, IsX K I kvs fs → fs.lookup f = some x → ∃ v, kvs.lookup f = some v ∧ Is K I v x
  | _, _, _, _, .nil, e => by cases e
  | _, _, f, x, .cons (f := g) (kvs := kvs) (fs := fs) h r, e => by
    rw [List.lookup_cons] at e
    rw [List.lookup_cons]
    split at e
    · rename_i hb
      cases e
      exact ⟨_, rfl, h⟩
    · rename_i hb
      exact r.look e
/-- x = error.f -/
def hAsg (C : Addr) (j : Nat) (f : Str) : Addr → List (Str × D) → List T → Option O := fun C' fs γ => if C' = C then (fs.lookup f).map fun x => .nx (γ.set j (.d x)) else none
def hRet (C : Addr) (f : Str) : Addr → List (Str × D) → List T → Option O := fun C' fs γ => if C' = C then (fs.lookup f).map fun x => .rt (.d x) γ else none
def hSeq (fh : Addr → List (Str × D) → List T → Option O) (g : List T → Option O) : Addr → List (Str × D) → List T → Option O := fun C fs γ => (fh C fs γ).bind fun o => match o with
  | .nx γ1 => g γ1
  | o => some o
variable {P : Program} {w : PySem.World} {mg : Str → Option Value} {base : Heap} {CX' : CXT}
theorem okFD {x qual : Str} {params : Arguments} {body : List Stmt} {scope : Scope} {dvs : List V} {kws : List (Str × V)} {f : Addr} {fd : FuncData} {N ps : List Str} {k : Nat} {fb : List T → Option O} {wr : List Nat} {n np : Nat} (F : FunD K x qual params body scope dvs kws f fd) (S : FnScope N ps scope) (hn : N.length = n) (hnp : ps.length = np) (hle : np ≤ n)
    (hbody : ∀ (cdv : Value) (A : Around) (outer : List Env) (s : Shared) (H : Hp) (E : XK), Room k (A.deeper (envOfC qual scope s.heap.objs.size f cdv)) →
      ∃ t, PSs (cxOf CX' P w K mg base N qual scope f cdv A outer s H E) body t ∧ RunS K wr (fun cls d _ H' => E cls d H') t fb) : FnOk P w K mg base CX' (k + 1) f fd ps (spF K (fnF np n wr fb)) := by
  refine F.ok S (fun vs H Q E h => (spF_len h).trans hnp.symm) fun cdv A outer s H vs Q E hr h => ?_
  obtain ⟨t, ht, hb⟩ := hbody cdv A outer s H E hr
  exact ⟨t, ht, body_okS hb hn hle h⟩
end
end FD
namespace FD
open PySem PySem.Spec PyProof.Rows L2
end FD
namespace FD
open PySem PySem.Spec PyProof.Rows L2
/-- what may stand beside an object of the class at C -/
inductive Beside (C : Addr) (H : Hp) : V → Prop
  | ins {b dy : Addr} {gs : List (Str × V)} : H b = some (.ins C dy gs) → Beside C H (.ref b)
  | int (i : Int) : Beside C H (.int i)
  | str (x : Str) : Beside C H (.str x)
section
variable {X : Cx} {n : Nat} {C g : Addr} {fd : FuncData} {p q : Str} {sp : Sp}
theorem beside {H : Hp} {y : V} {u : Value} {pins : List (Addr × Obj)} {σ : L2.St} {s : Shared} (hbs : Beside C H y) (I : L2.Inv X pins σ H s) (ry : L2.RelV y u) : ∃ tb, PySem.W.Looks (model X.prog X.w) s.heap (typeOf u) tb ∧ PySem.W.notFirst X.K C tb = true := by
  cases hbs with
  | ins hb =>
    cases ry
    obtain ⟨mB, J, _⟩ := ins_get I.hok hb
    obtain ⟨od, J, _⟩ := J.look
    exact ⟨_, J.type, by simp [PySem.W.notFirst]⟩
  | int i =>
    obtain ⟨t, rfl⟩ := ry
    refine ⟨.type "int", fun A Q E s hk q => ?_, ?_⟩
    · exact wpAny_pure q
    · have : PySem.W.subIn X.K (.type "int") (.ref C) = some false := rfl
      simp [PySem.W.notFirst, this]
  | str i =>
    obtain ⟨t, rfl⟩ := ry
    refine ⟨.type "str", fun A Q E s hk q => ?_, ?_⟩
    · exact wpAny_pure q
    · have : PySem.W.subIn X.K (.type "str") (.ref C) = some false := rfl
      simp [PySem.W.notFirst, this]
end
end FD
namespace FD
open PySem PySem.Spec PyProof.Rows L2
section
variable {K : PySem.W.Frag} {wr : List Nat} {W : WX'} {ta tb tc te to td ty tx : TE} {tt tu : TT} {ts tv : TS} {I I' H H' : Hp} {γ γ' : List T} {σ : Sg} {L : List Addr} {t : T} {v : V} {x : D} {C : Addr} {ns : List Str} {fn : Str}
def besideD (C : Addr) : D → Bool
  | .ins C' _ _ => decide (C' = C)
  | .int _ => true
  | .str _ => true
  | _ => false
def oOwnEq (C : Addr) (g : FN) (x y : D) : Option D := match x with
  | .ins C' ns ds => if C' = C ∧ besideD C y = true then (match g [.d (.ins C' ns ds), .d y] with
    | some (.ret (.d (.bl b)) _) => some (.bl b)
    | _ => none) else none
  | _ => none
def oOwnNe (C : Addr) (g : FN) (x y : D) : Option D := (oOwnEq C g x y).bind fun z => match z with
  | .bl b => some (.bl (!b))
  | _ => none
def oIsiC (C : Addr) (x : D) : Option D := match x with
  | .ins C' _ _ => if C' = C then some (.bl true) else none
  | x => if x.typed then some (.bl false) else none
def oFmt (x : D) : Option D := match x with
  | .str y => if y.length ≤ sizeLine then some (.str y) else none
  | .int i => if i.natAbs.log2 < 1920 then some (.str (Str.ofString (toString i))) else none
  | _ => none
def pJs : List (List T → Option D) → Str → List T → Option D
  | [], acc, _ => some (.str acc)
  | f :: fs, acc, γ => (f γ).bind fun x => match x with
    | .str y => if (acc ++ y).length ≤ sizeLine then pJs fs (acc ++ y) γ else none
    | _ => none
def anyB : List (Option Bool) → Option Bool
  | [] => some false
  | some true :: _ => some true
  | some false :: bs => anyB bs
  | none :: _ => none
def oIsiT (Ts : List String) (x : D) : Option D := if x.typed then (anyB (Ts.map fun T => kitB x.tyN T)).map .bl else none
end
end FD
namespace FD
open PySem PySem.Spec PyProof.Rows L2
end FD
namespace FD
open PySem PySem.Spec PyProof.Rows L2
def dcount (ns : List Int) : Nat := (firstMet (fun i => ns.getD i 0) ns.length).length
section
variable {K : PySem.W.Frag} {te : TE} {γ : List T}
def oLenSet (x : D) : Option D := match x with
  | .lst ds => (allI ds).bind fun ns => if ns.length < 60 ∧ dcount ns < 60 then some (.int (dcount ns : Nat)) else none
  | .tup ds => (allI ds).bind fun ns => if ns.length < 60 ∧ ns.Nodup then some (.int ns.length) else none
  | _ => none
end
end FD
namespace FD
open PySem PySem.Spec PyProof.Rows L2
section
variable {K : PySem.W.Frag} {wr : List Nat} {W : WX'} {ta tb tc te to td ty tx : TE} {tt tu : TT} {ts tv : TS} {I I' H H' : Hp} {γ γ' : List T} {σ : Sg} {L : List Addr} {t : T} {v : V} {x : D} {C : Addr} {ns : List Str} {fn : Str}
def oIsiO (C : Addr) (x y : D) : Option D := match y with
  | .raw (.ref C') => if C' = C then oIsiC C x else none
  | _ => none
/-- where no error gets out -/
def sNoX (f : List T → Option O) : List T → Option O := fun γ => (f γ).bind fun o => match o with
  | .xc _ _ _ => none
  | o => some o
end
end FD
namespace FD
open PySem PySem.Spec PyProof.Rows L2
abbrev HdF := List (List (Addr × Bool) × Option Nat × (Addr → List (Str × D) → List T → Option O))
def hRun : HdF → Addr → List (Str × D) → List T → Option O
  | [], C, fs, γ => some (.xc C fs γ)
  | (cs, none, fh) :: l, C, fs, γ => match cs.lookup C with
    | some true => fh C fs γ
    | some false => hRun l C fs γ
    | none => none
  | (cs, some i, fh) :: l, C, fs, γ => match cs.lookup C with
    | some true => if i < γ.length then (fh C fs (γ.set i .em)).bind (oCl i) else none
    | some false => hRun l C fs γ
    | none => none
def sTryH (l : HdF) (fb : List T → Option O) : List T → Option O := fun γ => (fb γ).bind fun o => match o with
  | .xc C fs γ1 => hRun l C fs γ1
  | o => some o
end FD
namespace FD
open PySem PySem.Spec PyProof.Rows L2
theorem cb_of {K : PySem.W.Frag} {C : Addr} (ic : PySem.W.isClsIn K C = true) (ty : PySem.W.typeIn K (.ref C) = some (.type "type")) : ∀ T ∈ ["NoneType", "bool", "int", "str", "list", "tuple", "dict"], PySem.W.kitOne K (.type T) (.ref C) = some false := by
  have e : ((PySem.W.clsIn K C).isSome && PySem.W.typeIn K (.ref C) == some (.type "type")) = true := by
    rw [show (PySem.W.clsIn K C).isSome = true from ic, ty]
    rfl
  intro T hT
  have k : ∀ T : String, PySem.W.subIn K (.type T) (.ref C) = some false → PySem.W.kitOne K (.type T) (.ref C) = some false := fun T h => by
    unfold PySem.W.kitOne PySem.W.kitCls
    rw [if_neg (show ¬ (Value.type T == Value.ref C) = true from fun z => by simp at z)]
    exact (if_pos e).trans h
  simp only [List.mem_cons, List.not_mem_nil, or_false] at hT
  rcases hT with rfl | rfl | rfl | rfl | rfl | rfl | rfl <;> exact k _ rfl
end FD
namespace FD
open PySem PySem.Spec PyProof.Rows L2
section
variable {K : PySem.W.Frag} {te : TE} {tr : TA}
def pRep (g : List T → Option (List D)) (f : List T → Option D) : List T → Option D := fun γ => (g γ).bind fun xs => (f γ).bind fun y => match y with
  | .int k => if xs.length ≤ sizeLine ∧ k ≤ 1000000 ∧ -1000000 ≤ k ∧ xs.length * k.toNat ≤ sizeLine then some (.lst (List.replicate k.toNat xs).flatten) else none
  | _ => none
@[simp] theorem pRep_app (g : List T → Option (List D)) (f : List T → Option D) (γ : List T) : pRep g f γ = (g γ).bind fun xs => (f γ).bind fun y => match y with
  | .int k => if xs.length ≤ sizeLine ∧ k ≤ 1000000 ∧ -1000000 ≤ k ∧ xs.length * k.toNat ≤ sizeLine then some (.lst (List.replicate k.toNat xs).flatten) else none
  | _ => none := rfl
end
end FD
namespace FD
open PySem PySem.Spec PyProof.Rows L2
section
variable {K : PySem.W.Frag} {wr : List Nat} {W : WX'} {ta tb tc te to td : TE} {I I' H H' : Hp} {γ γ' : List T} {σ : Sg} {L : List Addr} {v : V} {x : D}
def oSplit (x y : D) : Option D := match x, y with
  | .str a, .str b => if (b.length == 0) = false ∧ a.length + 2 ≤ sizeLine then some (.lst ((Txt.split a b).map .str)) else none
  | _, _ => none
@[simp] theorem oSplit_s (a b : Str) : oSplit (.str a) (.str b) = if (b.length == 0) = false ∧ a.length + 2 ≤ sizeLine then some (.lst ((Txt.split a b).map .str)) else none := rfl
theorem pu_split {f g : List T → Option D} (hf : Pu K to f) (hg : Pu K te g) : Pu K (tM1 (fun x xs H Q => ∃ a b, x = V.str a ∧ xs = [V.str b] ∧ (b.length == 0) = false ∧ a.length + 2 ≤ sizeLine ∧ rNewStrs (Txt.split a b) H Q) to te) (pOp oSplit f g) := fun γ z e σ I H L w Q k => by
  unfold pOp at e
  obtain ⟨x, e1, e⟩ := Option.bind_eq_some_iff.mp e
  obtain ⟨y, e2, e⟩ := Option.bind_eq_some_iff.mp e
  unfold oSplit at e
  split at e
  · rename_i a b
    split at e
    · rename_i h
      cases e
      refine hf γ _ e1 σ I H L w _ fun v I1 H1 n1 s1 hv => ?_
      cases hv
      refine ⟨⟨_, rfl⟩, hg γ _ e2 σ I1 H1 L (w.new n1 s1) _ fun u I2 H2 n2 s2 hu => ?_⟩
      cases hu
      refine ⟨_, _, rfl, rfl, h.1, h.2, fun p hp => ?_⟩
      obtain ⟨n3, s3⟩ := alloc (o := _) s2 hp
      exact k _ _ _ ((n1.trans n2).trans n3) s3 (.lst (sq_of upd_same) (isA_strs.mpr rfl))
    · cases e
  · cases e
def oPart (x y : D) : Option D := match x, y with
  | .str a, .str b => if (b.length == 0) = false ∧ a.length ≤ sizeLine then some (.tup [.str (Txt.partition a b).1, .str (Txt.partition a b).2.1, .str (Txt.partition a b).2.2]) else none
  | _, _ => none
@[simp] theorem oPart_s (a b : Str) : oPart (.str a) (.str b) = if (b.length == 0) = false ∧ a.length ≤ sizeLine then some (.tup [.str (Txt.partition a b).1, .str (Txt.partition a b).2.1, .str (Txt.partition a b).2.2]) else none := rfl
def oStarts (x y : D) : Option D := match x, y with
  | .str a, .str b => some (.bl (Txt.startswith a b))
  | _, _ => none
@[simp] theorem oStarts_s (a b : Str) : oStarts (.str a) (.str b) = some (.bl (Txt.startswith a b)) := rfl
def oIntS (x : D) : Option D := match x with
  | .str a => if a.length ≤ 640 then (PySem.intText? a).map .int else none
  | _ => none
@[simp] theorem oIntS_s (a : Str) : oIntS (.str a) = if a.length ≤ 640 then (PySem.intText? a).map .int else none := rfl
def oStrU (x : D) : Option D := match x with
  | .int i => if i.natAbs.log2 < 1920 then some (.str (toString i)) else none
  | .str a => some (.str a)
  | _ => none
@[simp] theorem oStrU_i (i : Int) : oStrU (.int i) = if i.natAbs.log2 < 1920 then some (.str (toString i)) else none := rfl
@[simp] theorem oStrU_s (a : Str) : oStrU (.str a) = some (.str a) := rfl
def oStrOwn (C : Addr) (g : FN) (x : D) : Option D := match x with
  | .ins C' ns ds => if C' = C then (match g [.d (.ins C' ns ds)] with
    | some (.ret (.d (.str y)) _) => some (.str y)
    | _ => none) else none
  | _ => none
def iR3 (f g h : List T → Option D) : List T → Option (List D) := fun γ => (f γ).bind fun x => (g γ).bind fun y => (h γ).bind fun z => match x, y, z with
  | .int i, .int j, .int c => if c ≠ 0 ∧ c.natAbs < 1073741824 ∧ Builtin.Range.small i j c = true then some ((List.range (Builtin.Range.rangeSize i j c).toNat).map fun k => .int (i + (k : Nat) * c)) else none
  | _, _, _ => none
@[simp] theorem iR3_app (f g h : List T → Option D) (γ : List T) : iR3 f g h γ = (f γ).bind fun x => (g γ).bind fun y => (h γ).bind fun z => match x, y, z with
  | .int i, .int j, .int c => if c ≠ 0 ∧ c.natAbs < 1073741824 ∧ Builtin.Range.small i j c = true then some ((List.range (Builtin.Range.rangeSize i j c).toNat).map fun k => .int (i + (k : Nat) * c)) else none
  | _, _, _ => none := rfl
end
end FD
namespace FD
open PySem PySem.Spec PyProof.Rows L2
section
variable {K : PySem.W.Frag} {wr : List Nat} {W : WX'} {ta tb tc te to td ty tx : TE} {I I' H H' : Hp} {γ γ' : List T} {σ : Sg} {L : List Addr} {v : V} {x : D}
def toK : D → Option Key
  | .int i => some (.inl i)
  | .str s => some (.inr s)
  | _ => none
def ofK : Key → D
  | .inl i => .int i
  | .inr s => .str s
@[simp] theorem toK_i (i : Int) : toK (.int i) = some (.inl i) := rfl
@[simp] theorem toK_s (i : Str) : toK (.str i) = some (.inr i) := rfl
@[simp] theorem ofK_i (i : Int) : ofK (.inl i) = .int i := rfl
@[simp] theorem ofK_s (i : Str) : ofK (.inr i) = .str i := rfl
theorem toK_v {k : Key} (e : toK x = some k) (h : Tp K I H v x) : v = kV k := by
  cases x <;> simp [toK] at e
  · subst e; exact h.n_
  · subst e; exact h.s
theorem toK_is {k : Key} (e : toK x = some k) (h : Is K I v x) : v = kV k := toK_v (H := I) e (.is h)
theorem ofK_is (k : Key) : Is K I (kV k) (ofK k) := by
  cases k
  · exact .int _
  · exact .str _
def atK : List Key → List D → Key → Option D
  | k' :: ks, d :: ds, k => if k' = k then some d else atK ks ds k
  | _, _, _ => none
@[simp] theorem atK_cons (k' k : Key) (ks : List Key) (d : D) (ds : List D) : atK (k' :: ks) (d :: ds) k = if k' = k then some d else atK ks ds k := rfl
@[simp] theorem atK_nil (k : Key) : atK [] [] k = none := rfl
theorem atK_ok {k : Key} : ∀ {kvs : List (Key × V)} {ds : List D}, IsA K I (kvs.map (·.2)) ds → (valV kvs k = none ∧ atK (kvs.map (·.1)) ds k = none) ∨ ∃ u d, valV kvs k = some u ∧ atK (kvs.map (·.1)) ds k = some d ∧ Is K I u d
  | [], _, h => by cases h; exact .inl ⟨rfl, rfl⟩
  | (k', u) :: kvs, ds, h => by
    cases h with
    | @cons _ _ d ds h1 h2 =>
      by_cases e : k' = k
      · exact .inr ⟨u, d, valV_pos e, by simp [e], h1⟩
      · rw [valV_neg (p := (k', u)) e]
        simp only [List.map_cons, atK_cons, e, if_false]
        exact atK_ok h2
def hasK (ks : List Key) (k : Key) : Bool := ks.any fun k' => decide (k' = k)
@[simp] theorem hasK_nil (k : Key) : hasK [] k = false := rfl
@[simp] theorem hasK_cons (k' k : Key) (ks : List Key) : hasK (k' :: ks) k = (decide (k' = k) || hasK ks k) := rfl
theorem val_some {k : Key} (kvs : List (Key × V)) : (valV kvs k).isSome = hasK (kvs.map (·.1)) k := by
  rw [← valV_any]
  unfold hasK
  rw [List.any_map]
  rfl
def oDIn (x y : D) : Option D := match y with
  | .dic ks _ => (toK x).map fun k => .bl (hasK ks k)
  | _ => none
@[simp] theorem oDIn_d (x : D) (ks : List Key) (ds : List D) : oDIn x (.dic ks ds) = (toK x).map fun k => .bl (hasK ks k) := rfl
def oDNotIn (x y : D) : Option D := match y with
  | .dic ks _ => (toK x).map fun k => .bl (!hasK ks k)
  | _ => none
@[simp] theorem oDNotIn_d (x : D) (ks : List Key) (ds : List D) : oDNotIn x (.dic ks ds) = (toK x).map fun k => .bl (!hasK ks k) := rfl
def rDIn : R2 := fun x y H Q => ∃ a o, y = .ref a ∧ DGet H a x o ∧ Q (.bl o.isSome) H
theorem op_dIn {X : Cx} (hu : X.A.units + 1 < cLine) : OpR X (compareOp .In) rDIn := by
  intro pins s σ H x y v u Q I rx ry h
  obtain ⟨a, o, rfl, g, q⟩ := h
  cases (show u = Value.ref a from ry)
  exact d_in hu I g rx fun s' I' => ⟨.bl o.isSome, H, I', rfl, q⟩
theorem dIn_t : ∀ x y z, oDIn x y = some z → OpT K rDIn x y z := fun x y z e I H v w s hv hw Q q => by
  unfold oDIn at e
  split at e
  · rename_i ks ds
    obtain ⟨k, e1, rfl⟩ := Option.map_eq_some_iff.mp e
    obtain ⟨a, kvs, rfl, h1, h2, h3⟩ := hw.k s
    refine ⟨a, valV kvs k, rfl, .inl ⟨kvs, k, h1, toK_v e1 hv, rfl⟩, ?_⟩
    rw [val_some, ← h2]
    exact q _ I H (New.refl I H) s (.bl _)
  · cases e
def oDIx (x y : D) : Option D := match x with
  | .dic ks ds => (toK y).bind fun k => atK ks ds k
  | _ => none
@[simp] theorem oDIx_d (y : D) (ks : List Key) (ds : List D) : oDIx (.dic ks ds) y = (toK y).bind fun k => atK ks ds k := rfl
def pGet2 (f g h : List T → Option D) : List T → Option D := fun γ => (f γ).bind fun x => (g γ).bind fun y => (h γ).bind fun z => match x with
  | .dic ks ds => (toK y).map fun k => (atK ks ds k).getD z
  | _ => none
@[simp] theorem pGet2_app (f g h : List T → Option D) (γ : List T) : pGet2 f g h γ = (f γ).bind fun x => (g γ).bind fun y => (h γ).bind fun z => match x with
  | .dic ks ds => (toK y).map fun k => (atK ks ds k).getD z
  | _ => none := rfl
theorem pu_get2 {f g h : List T → Option D} (hf : Cu K td f) (hg : Cu K ty g) (hh : Pu K tx h) : Pu K (tDGet2 td ty tx) (pGet2 f g h) := fun γ z e σ I H L w Q k => by
  unfold pGet2 at e
  obtain ⟨x, e1, e⟩ := Option.bind_eq_some_iff.mp e
  obtain ⟨y, e2, e⟩ := Option.bind_eq_some_iff.mp e
  obtain ⟨d0, e3, e⟩ := Option.bind_eq_some_iff.mp e
  split at e
  · rename_i ks ds q1
    obtain ⟨j, e4, rfl⟩ := Option.map_eq_some_iff.mp e
    refine hf γ _ e1 σ I H L w _ fun v I1 H1 n1 s1 hv => ?_
    obtain ⟨a0, kvs0, rfl, h01, h02, h03⟩ := hv.k s1
    refine ⟨a0, rfl, .inl ⟨_, h01⟩, hg γ _ e2 σ I1 H1 L (w.new n1 s1) _ fun u I2 H2 n2 s2 hu => hh γ _ e3 σ I2 H2 L (w.new (n1.trans n2) s2) _ fun t I3 H3 n3 s3 ht => ?_⟩
    obtain ⟨a, kvs, ea, h1, h2, h3⟩ := ((hv.new n2).new n3).k s3
    cases ea
    subst h2
    refine ⟨valV kvs j, .inl ⟨kvs, j, h1, toK_v e4 hu, rfl⟩, ?_⟩
    rcases atK_ok (k := j) h3 with ⟨q3, q4⟩ | ⟨u', d, q3, q4, q5⟩
    · rw [q3]
      refine k _ I3 H3 ((n1.trans n2).trans n3) s3 ?_
      rw [q4]; exact ht
    · rw [q3]
      refine k _ I3 H3 ((n1.trans n2).trans n3) s3 ?_
      rw [q4]; exact q5
  · cases e
def oListD (x : D) : Option D := match x with
  | .dic ks _ => some (.lst (ks.map ofK))
  | _ => none
@[simp] theorem oListD_d (ks : List Key) (ds : List D) : oListD (.dic ks ds) = some (.lst (ks.map ofK)) := rfl
theorem isA_keysT : ∀ ks : List Key, IsA K I (ks.map kV) (ks.map ofK)
  | [] => .nil
  | k :: ks => .cons (ofK_is k) (isA_keysT ks)
theorem listD_t : ∀ x z, oListD x = some z → CallT K (fun v => (fun xs H Q => ∃ (a : Addr) (kvs : List (Key × V)), xs = [V.ref a] ∧ Rd H a (.dK kvs) ∧ ∀ p, H p = none → Q (.ref p) (upd H p (.lst (kvs.map fun kv => kV kv.1))) : List V → Hp → VK → Prop) [v]) x z := fun x z e I H v s hv Q q => by
  unfold oListD at e
  split at e
  · cases e
    obtain ⟨a, kvs, rfl, h1, h2, h3⟩ := hv.k s
    refine ⟨a, kvs, rfl, h1, fun p hp => ?_⟩
    obtain ⟨n, s'⟩ := alloc (o := .lst (kvs.map fun kv => kV kv.1)) s hp
    refine q _ _ _ n s' (.lst (sq_of upd_same) ?_)
    rw [h2, show (kvs.map fun kv => kV kv.1) = (kvs.map (·.1)).map kV by simp]
    exact isA_keysT _
  · cases e
def eListD (f : List T → Option D) : List T → Option (T × List T) := fun γ => (f γ).bind fun x => match x with
  | .dic ks _ => some (.lst (ks.map ofK), γ)
  | _ => none
@[simp] theorem eListD_app (f : List T → Option D) (γ : List T) : eListD f γ = (f γ).bind fun x => match x with
  | .dic ks _ => some (.lst (ks.map ofK), γ)
  | _ => none := rfl
def oLenD (x : D) : Option D := match x with
  | .dic ks _ => some (.int (ks.length : Nat))
  | _ => none
@[simp] theorem oLenD_d (ks : List Key) (ds : List D) : oLenD (.dic ks ds) = some (.int (ks.length : Nat)) := rfl
end
end FD
namespace FD
open PySem PySem.Spec PyProof.Rows L2
section
variable {K : PySem.W.Frag} {wr : List Nat} {W : WX'} {ta tb tc te to td ty tx tv : TE} {I I' H H' : Hp} {γ γ' : List T} {σ : Sg} {L : List Addr} {v : V} {x : D}
def iEnE (f : List T → Option (T × List T)) : List T → Option (List D × List T) := fun γ => (f γ).bind fun q => q.1.toD.bind fun y => match y with
  | .lst ds => some (enumD ds, q.2)
  | _ => none
@[simp] theorem iEnE_app (f : List T → Option (T × List T)) (γ : List T) : iEnE f γ = (f γ).bind fun q => q.1.toD.bind fun y => match y with
  | .lst ds => some (enumD ds, q.2)
  | _ => none := rfl
def putKs (ks : List Key) (k : Key) : List Key := if hasK ks k = true then ks else ks ++ [k]
def repT : List Key → List T → Key → T → List T
  | k' :: ks, t :: ts, k, u => (if k' = k then u else t) :: repT ks ts k u
  | _, _, _, _ => []
@[simp] theorem repT_cons (k' k : Key) (ks : List Key) (t u : T) (ts : List T) : repT (k' :: ks) (t :: ts) k u = (if k' = k then u else t) :: repT ks ts k u := rfl
@[simp] theorem repT_nil (k : Key) (u : T) : repT [] [] k u = [] := rfl
def putTsK (ks : List Key) (ts : List T) (k : Key) (u : T) : List T := if hasK ks k = true then repT ks ts k u else ts ++ [u]
theorem OwA.repT {k : Key} {y : V} {x : D} (hy : Is K I y x) : ∀ {kvs : List (Key × V)} {ts : List T} {L : List Addr}, OwA K I H (kvs.map (·.2)) ts L → ∃ L', L'.Sublist L ∧ OwA K I H ((kvs.map fun kv => if kv.1 = k then (kv.1, y) else kv).map (·.2)) (FD.repT (kvs.map (·.1)) ts k (.d x)) L'
  | [], _, _, h => by cases h; exact ⟨[], .slnil, .nil⟩
  | (k', u) :: kvs, _, _, h => by
    cases h with
    | @cons _ _ t ts L1 L2 h1 h2 =>
      obtain ⟨L', s, h3⟩ := OwA.repT (k := k) hy h2
      by_cases e : k' = k
      · refine ⟨L', s.trans (List.sublist_append_right _ _), ?_⟩
        simp only [List.map_cons, e, if_true, repT_cons]
        exact .cons (L1 := []) (.d hy) h3
      · refine ⟨L1 ++ L', List.Sublist.append_left s _, ?_⟩
        simp only [List.map_cons, e, if_false, repT_cons]
        exact .cons h1 h3
theorem OwA.snoc {y : V} {x : D} (hy : Is K I y x) : ∀ {vs : List V} {ts : List T} {L : List Addr}, OwA K I H vs ts L → OwA K I H (vs ++ [y]) (ts ++ [.d x]) L
  | [], _, _, h => by cases h; exact .cons (L1 := []) (L2 := []) (.d hy) .nil
  | u :: vs, _, _, h => by
    cases h with
    | cons h1 h2 => exact .cons h1 (OwA.snoc hy h2)
theorem Ow.dput {a : Addr} {kvs : List (Key × V)} {ts : List T} {L : List Addr} {k : Key} {y : V} (hy : Is K I y x) (ha : a ∉ L) (h : OwA K I H (kvs.map (·.2)) ts L) : ∃ L', L'.Sublist L ∧ Ow K I (upd H a (.dK (putK kvs k y))) (.ref a) (.dic (putKs (kvs.map (·.1)) k) (putTsK (kvs.map (·.1)) ts k (.d x))) (a :: L') := by
  have kp : ∀ {L' : List Addr}, L'.Sublist L → ∀ b ∈ L', upd H a (.dK (putK kvs k y)) b = H b := fun s b hb => upd_ne fun e => ha (e ▸ s.subset hb)
  have hh : hasK (kvs.map (·.1)) k = kvs.any fun kv => decide (kv.1 = k) := by unfold hasK; rw [List.any_map]; rfl
  have key : ∃ L', L'.Sublist L ∧ putKs (kvs.map (·.1)) k = (putK kvs k y).map (·.1) ∧ OwA K I H ((putK kvs k y).map (·.2)) (putTsK (kvs.map (·.1)) ts k (.d x)) L' := by
    by_cases c : (kvs.any fun kv => decide (kv.1 = k)) = true
    · obtain ⟨L', s, h3⟩ := h.repT (k := k) hy
      refine ⟨L', s, ?_, ?_⟩
      · unfold putKs putK
        rw [hh, if_pos c, if_pos c, List.map_map]
        refine (List.map_congr_left fun kv _ => ?_)
        simp only [Function.comp]
        split <;> rfl
      · unfold putTsK putK
        rw [hh, if_pos c, if_pos c]
        exact h3
    · refine ⟨L, List.Sublist.refl _, ?_, ?_⟩
      · unfold putKs putK
        rw [hh, if_neg c, if_neg c]
        simp
      · unfold putTsK putK
        rw [hh, if_neg c, if_neg c, List.map_append]
        exact h.snoc hy
  obtain ⟨L', s, e1, e2⟩ := key
  exact ⟨L', s, .dic upd_same e1 (e2.keep (Ex.refl I) (kp s))⟩
def sDPutV (i : Nat) (f : List T → Option (T × List T)) (g : List T → Option D) : List T → Option O := fun γ => (f γ).bind fun q => q.1.toD.bind fun x => match q.2[i]? with
  | some (.dic ks ts) => (g q.2).bind fun y => (toK y).bind fun k => if ks.length < sizeLine then some (.nx (q.2.set i (.dic (putKs ks k) (putTsK ks ts k (.d x))))) else none
  | _ => none
@[simp] theorem sDPutV_app (i : Nat) (f : List T → Option (T × List T)) (g : List T → Option D) (γ : List T) : sDPutV i f g γ = (f γ).bind fun q => q.1.toD.bind fun x => match q.2[i]? with
  | some (.dic ks ts) => (g q.2).bind fun y => (toK y).bind fun k => if ks.length < sizeLine then some (.nx (q.2.set i (.dic (putKs ks k) (putTsK ks ts k (.d x))))) else none
  | _ => none := rfl
end
end FD
namespace FD
open PySem PySem.Spec PyProof.Rows L2
section
variable {K : PySem.W.Frag} {te : TE} {I I' H H' : Hp} {γ : List T} {σ : Sg} {L : List Addr} {v : V} {x : D}
abbrev PF := List (Str × (List T → Option D))
def evP : PF → List T → Option (List D)
  | [], _ => some []
  | (_, f) :: ps, γ => (f γ).bind fun x => (evP ps γ).map (x :: ·)
@[simp] theorem evP_nil (γ : List T) : evP [] γ = some [] := rfl
@[simp] theorem evP_cons (s : Str) (f : List T → Option D) (ps : PF) (γ : List T) : evP ((s, f) :: ps) γ = (f γ).bind fun x => (evP ps γ).map (x :: ·) := rfl
def eDisp (ps : PF) : List T → Option (T × List T) := fun γ => (evP ps γ).bind fun ds => if (ps.map fun p => (Sum.inr p.1 : Key)).Nodup ∧ ps.length ≤ 15 then some (.dic (ps.map fun p => .inr p.1) (ds.map .d), γ) else none
@[simp] theorem eDisp_app (ps : PF) (γ : List T) : eDisp ps γ = (evP ps γ).bind fun ds => if (ps.map fun p => (Sum.inr p.1 : Key)).Nodup ∧ ps.length ≤ 15 then some (.dic (ps.map fun p => .inr p.1) (ds.map .d), γ) else none := rfl
inductive PuP (K : PySem.W.Frag) : List (TE × TE) → PF → Prop
  | nil : PuP K [] []
  | cons {s : Str} {te : TE} {f : List T → Option D} {trs : List (TE × TE)} {ps : PF} : Pu K te f → PuP K trs ps → PuP K ((tC (.str s), te) :: trs) ((s, f) :: ps)
theorem PuP.run {trs : List (TE × TE)} {ps : PF} (h : PuP K trs ps) : ∀ {ds : List D}, evP ps γ = some ds → ∀ {I H : Hp}, WS K γ σ I H L → ∀ Q : List (V × V) → Hp → Prop, (∀ (kvs : List (Key × V)) (I' H' : Hp), New I H I' H' → Ex I' H' → kvs.map (·.1) = ps.map (fun p => Sum.inr p.1) → IsA K I' (kvs.map (·.2)) ds → Q (kvs.map fun kv => (kV kv.1, kv.2)) H') → tPairs trs σ H Q := by
  induction h with
  | nil =>
    intro ds e I H w Q q
    cases e
    exact q [] I H (New.refl I H) w.sub rfl .nil
  | @cons s te f trs ps hf hr ih =>
    intro ds e I H w Q q
    rw [evP_cons] at e
    obtain ⟨x, e1, e⟩ := Option.bind_eq_some_iff.mp e
    obtain ⟨ds', e2, rfl⟩ := Option.map_eq_some_iff.mp e
    refine hf γ x e1 σ I H L w _ fun v I1 H1 n1 s1 hv => ih e2 (w.new n1 s1) _ fun kvs I2 H2 n2 s2 hk h2 => ?_
    exact q ((Sum.inr s, v) :: kvs) I2 H2 (n1.trans n2) s2 (by simp [hk]) (.cons (hv.mono n2.i) h2)
end
end FD
namespace FD
open PySem PySem.Spec PyProof.Rows L2
theorem hu1 {k : Nat} {A : Around} (hr : Room k A) : A.units + 1 < cLine := by
  have := hu64 hr
  omega
end FD
namespace FD
open PySem PySem.Spec PyProof.Rows L2
section
variable {K : PySem.W.Frag} {te : TE}
def bTr (f : List T → Option D) : List T → Option Bool := fun γ => (f γ).bind fun x => match x with
  | .bl b => some b
  | .lst ds => some (!ds.isEmpty)
  | .tup ds => some (!ds.isEmpty)
  | .non => some false
  | _ => none
@[simp] theorem bTr_app (f : List T → Option D) (γ : List T) : bTr f γ = (f γ).bind fun x => match x with
  | .bl b => some b
  | .lst ds => some (!ds.isEmpty)
  | .tup ds => some (!ds.isEmpty)
  | .non => some false
  | _ => none := rfl
theorem isA_emp {I : Hp} {xs : List V} {ds : List D} (h : IsA K I xs ds) : (!xs.isEmpty) = !ds.isEmpty := by cases h <;> rfl
end
end FD
namespace FD
open PySem PySem.Spec PyProof.Rows L2
end FD
namespace FD
open PySem PySem.Spec PyProof.Rows L2
section
variable {K : PySem.W.Frag} {ta tb : TE}
/-- list + list, one's own -/
def eCat (f g : List T → Option D) : List T → Option (T × List T) := fun γ => (f γ).bind fun x => (g γ).bind fun y => match x, y with
  | .lst a, .lst b => if a.length + b.length ≤ sizeLine then some (.lst (a ++ b), γ) else none
  | _, _ => none
@[simp] theorem eCat_app (f g : List T → Option D) (γ : List T) : eCat f g γ = (f γ).bind fun x => (g γ).bind fun y => match x, y with
  | .lst a, .lst b => if a.length + b.length ≤ sizeLine then some (.lst (a ++ b), γ) else none
  | _, _ => none := rfl
end
end FD
namespace FD
open PySem PySem.Spec PyProof.Rows L2
section
variable {K : PySem.W.Frag} {wr : List Nat}
/-- a, b = a list -/
def gLs (n : Nat) (g : List D → List T → Option (List T)) : D → List T → Option (List T) := fun x γ => match x with
  | .lst ds => if ds.length = n then g ds γ else none
  | _ => none
@[simp] theorem gLs_app (n : Nat) (g : List D → List T → Option (List T)) (ds : List D) (γ : List T) : gLs n g (.lst ds) γ = if ds.length = n then g ds γ else none := rfl
end
end FD
namespace FD
open PySem PySem.Spec PyProof.Rows L2
section
variable {K : PySem.W.Frag} {wr : List Nat} {W : WX'} {ta tb tc te to : TE} {tt tu : TT} {ts tv : TS} {I I' H H' : Hp} {γ γ' : List T} {σ : Sg} {L : List Addr} {t : T} {v : V} {x : D}
def isDE (γ : List T) (k : Nat) : Bool := match γ[k]? with
  | some .em => true
  | some (.d _) => true
  | none => true
  | _ => false
@[simp] theorem isDE_app (γ : List T) (k : Nat) : isDE γ k = match γ[k]? with
  | some .em => true
  | some (.d _) => true
  | none => true
  | _ => false := rfl
theorem EnvT.setN0 : ∀ {γ : List T} {σ : Sg} {L : List Addr} (i : Nat), isDE γ i = true → EnvT K I H γ σ L → EnvT K I H (γ.set i .em) (σ.set i none) L
  | _, _, _, _, _, .nil => .nil
  | _, _, _, 0, _, .em x e => .em none e
  | t :: _, _, _, 0, h, .cons (L1 := L1) p e => by
    cases t with
    | d y =>
      cases p with
      | d p => exact .em none e
    | em => cases p; exact .em none e
    | _ => simp [isDE] at h
  | _, _, _, i + 1, h, .em x e => .em x (EnvT.setN0 i (by simpa [isDE] using h) e)
  | _, _, _, i + 1, h, .cons (L1 := L1) p e => .cons p (EnvT.setN0 i (by simpa [isDE] using h) e)
theorem isDE_set {γ : List T} {i k : Nat} (h : isDE γ k = true) : isDE (γ.set i .em) k = true := by
  unfold isDE at h ⊢
  by_cases hk : i = k
  · subst hk
    rw [List.getElem?_set_self']
    cases γ[i]? <;> rfl
  · rw [List.getElem?_set_ne hk]
    exact h
theorem EnvT.wipeU : ∀ {vs : List Nat} {γ : List T} {σ : Sg}, EnvT K I H γ σ L → vs.all (isDE γ) = true → EnvT K I H (FD.unset vs γ) (L2.wipe σ vs) L
  | [], _, _, h, _ => h
  | v :: vs, γ, σ, h, q => by
    rw [List.all_cons, Bool.and_eq_true] at q
    have key : ∀ (ws : List Nat) (γ : List T), isDE γ v = true → isDE (FD.unset ws γ) v = true := by
      intro ws
      induction ws with
      | nil => exact fun γ h => h
      | cons w ws ih => exact fun γ h => isDE_set (ih γ h)
    exact EnvT.setN0 v (key vs γ q.1) (EnvT.wipeU h q.2)
def pLcW (vs : List Nat) (it : List T → Option (List D)) (g : D → List T → Option (List T)) (c : List T → Option Bool) (f : List T → Option D) : List T → Option D := fun γ =>
  if vs.all (isDE γ) = true then (it γ).bind fun ds => if ds.length < sizeLine then (lcP g c f (unset vs γ) ds).map .lst else none else none
@[simp] theorem pLcW_app (vs : List Nat) (it : List T → Option (List D)) (g : D → List T → Option (List T)) (c : List T → Option Bool) (f : List T → Option D) (γ : List T) : pLcW vs it g c f γ =
  if vs.all (isDE γ) = true then (it γ).bind fun ds => if ds.length < sizeLine then (lcP g c f (unset vs γ) ds).map .lst else none else none := rfl
theorem lc_pureW {fz : Bool} {wi : TI} {g : TG} {vs : List Nat} {it : List T → Option (List D)} {fg : D → List T → Option (List T)} {c : List T → Option Bool} {f : List T → Option D} (hi : ItS K fz wi it) (hg : RgS K vs g fg) (hc : PuT K tt c) (hf : Pu K te f) {ds zs : List D} (hem : vs.all (isDE γ) = true) (e1 : it γ = some ds) (hz : ds.length < sizeLine) (e2 : lcP fg c f (unset vs γ) ds = some zs) (W0 : WS K γ σ I H L) {Q : VK}
    (q : ∀ Dl acc I' H', H Dl = none → I' Dl = none → H' Dl = some (.lst acc) → IsA K I' acc zs → New I H I' H' → Ex I' H' → Q (.ref Dl) H') : tLc wi g tt te vs σ H Q := by
  refine hi γ ds e1 σ I H L W0 _ fun J I1 H1 Gd Y n1 s1 hG hw hy Dl hD => ?_
  have w1 := W0.new n1 s1
  -- the invariant: what is made, what is left
  refine lc_it hw (fun i H' => ∃ I' acc ys rest, New I1 H1 I' H' ∧ Ex I' H' ∧ I' Dl = none ∧ H' Dl = some (.lst acc) ∧ IsA K I' acc ys ∧ ys.length ≤ i ∧ lcP fg c f (unset vs γ) (ds.drop i) = some rest ∧ zs = ys ++ rest) ?_ (fun i H' _ q => ?_) (fun i x H' H2 hin q y => ?_) fun H' q' => ?_
  · exact ⟨I1, [], [], zs, ⟨Ex.refl I1, Ex.new hD, fun a o h => .inl h⟩, fun a o h => Ex.new hD a o (w1.sub a o h), w1.sub.back hD, upd_same, .nil, by simp, by simpa using e2, rfl⟩
  · obtain ⟨I', acc, ys, rest, n, e, _⟩ := q
    exact hG H' (n.i.trans e) fun _ => n.h
  · obtain ⟨I', acc, ys, rest, n, e, hID, hHD, hA, hyl, hrest, hzs⟩ := q
    obtain ⟨d, I3, hd, n3, e3, hv⟩ := hy i I' H' x H2 hin n.i e y
    have hdrop : ds.drop i = d :: ds.drop (i + 1) := by
      obtain ⟨hlt, hde⟩ := List.getElem?_eq_some_iff.mp hd
      rw [List.drop_eq_getElem_cons hlt, hde]
    rw [hdrop] at hrest
    unfold lcP at hrest
    obtain ⟨γ1, g1, hrest⟩ := Option.bind_eq_some_iff.mp hrest
    obtain ⟨b, g2, hrest⟩ := Option.bind_eq_some_iff.mp hrest
    have nn := n.trans n3
    have w3 : WS K (unset vs γ) (wipe σ vs) I3 H2 L := by
      have := w1.new nn e3
      exact ⟨this.env.wipeU hem, this.nd, this.fr, this.sub⟩
    have hD2 : H2 Dl = some (.lst acc) := n3.h _ _ hHD
    have hI3 : I3 Dl = none := by
      cases q : I3 Dl with
      | none => rfl
      | some o =>
        rcases n3.n Dl o q with z | z
        · rw [hID] at z; cases z
        · rw [hHD] at z; cases z
    have out : ∀ {I6 H6 : Hp}, New I3 H2 I6 H6 → I6 Dl = none := fun {I6 H6} n6 => by
      cases q : I6 Dl with
      | none => rfl
      | some o =>
        rcases n6.n Dl o q with z | z
        · rw [hI3] at z; cases z
        · rw [hD2] at z; cases z
    refine hg d (unset vs γ) γ1 g1 x _ I3 H2 L w3 hv _ fun σ2 L4 w4 s4 a4 => ⟨(wipe_agr a4).trans (wipe_idem vs σ), ?_⟩
    refine hc γ1 b g2 σ2 I3 H2 L4 w4 _ fun I5 H5 n5 s5 => ?_
    cases b with
    | true =>
      obtain ⟨y1, g3, hrest⟩ := Option.bind_eq_some_iff.mp (show (f γ1).bind (fun y => (lcP fg c f (unset vs γ) (ds.drop (i + 1))).map (y :: ·)) = some rest from hrest)
      cases g4 : lcP fg c f (unset vs γ) (ds.drop (i + 1)) with
      | none => simp [g3, g4] at hrest
      | some rs =>
        have er : rest = y1 :: rs := by
          rw [g4] at hrest
          simp [g3] at hrest
          exact hrest.symm
        show te σ2 H5 _
        refine hf γ1 y1 g3 σ2 I5 H5 L4 (w4.new n5 s5) _ fun u I6 H6 n6 s6 hu => ?_
        have n56 := n5.trans n6
        have n6' := nn.trans n56
        refine ⟨acc, n56.h _ _ hD2, by rw [hA.length]; omega, I6, acc ++ [u], ys ++ [y1], rs, ⟨n6'.i, fun a o h => ?_, n6'.n⟩, fun a o h => ?_, out n56, upd_same, ?_, by simp; omega, rfl, by rw [hzs, er]; simp⟩
        · rw [upd_ne (ne_of_none h hD)]
          exact n6'.h a o h
        · have hne : a ≠ Dl := fun e => by
            subst e
            rw [out n56] at h
            cases h
          rw [upd_ne hne]
          exact s6 a o h
        · exact IsA.append (hA.mono (n3.i.trans n56.i)) (.cons hu .nil)
    | false =>
      show ∃ I' acc ys rest, _
      exact ⟨I5, acc, ys, rest, nn.trans n5, s5, out n5, n5.h _ _ hD2, hA.mono (n3.i.trans n5.i), by omega, by simpa using hrest, hzs⟩
  · obtain ⟨I', acc, ys, rest, n, e, hID, hHD, hA, _, hrest, hzs⟩ := q'
    rw [List.drop_length] at hrest
    cases hrest
    rw [List.append_nil] at hzs
    subst hzs
    exact q Dl acc I' H' (n1.h.back hD) hID hHD hA (n1.trans n) e
theorem pu_lcW {fz : Bool} {wi : TI} {g : TG} {vs : List Nat} {it : List T → Option (List D)} {fg : D → List T → Option (List T)} {c : List T → Option Bool} {f : List T → Option D} (hi : ItS K fz wi it) (hg : RgS K vs g fg) (hc : PuT K tt c) (hf : Pu K te f) : Pu K (tLc wi g tt te vs) (pLcW vs it fg c f) := fun γ z e σ I H L W0 Q q => by
  unfold pLcW at e
  split at e
  · rename_i hem
    obtain ⟨ds, e1, e⟩ := Option.bind_eq_some_iff.mp e
    split at e
    · rename_i hz
      cases e2 : lcP fg c f (unset vs γ) ds with
      | none => simp [e2] at e
      | some zs =>
        simp [e2] at e
        subst e
        refine lc_pureW hi hg hc hf hem e1 hz e2 W0 fun Dl acc I' H' h0 hID hHD hA n e => ?_
        have ei : Ex I' (upd I' Dl (.lst acc)) := Ex.new hID
        refine q (.ref Dl) (upd I' Dl (.lst acc)) H' ⟨n.i.trans ei, n.h, fun a o h => ?_⟩ (fun a o h => ?_) (.lst (sq_of upd_same) (hA.mono ei))
        · by_cases hd : a = Dl
          · subst hd
            exact .inr h0
          · rw [upd_ne hd] at h
            exact n.n a o h
        · by_cases hd : a = Dl
          · subst hd
            rw [upd_same] at h
            cases h
            exact hHD
          · rw [upd_ne hd] at h
            exact e a o h
    · cases e
  · cases e
end
end FD
namespace FD
open PySem PySem.Spec PyProof.Rows L2
section
variable {K : PySem.W.Frag} {wr : List Nat} {W : WX'} {ta tb tc te to : TE} {tt tu : TT} {ts tv : TS} {I I' H H' : Hp} {γ γ' : List T} {σ : Sg} {L : List Addr} {t : T} {v : V} {x : D}
def putB (γ0 : List T) (k : Nat) (γ : List T) : List T := match γ0[k]? with
  | some (.d x) => γ.set k (.d x)
  | _ => γ
@[simp] theorem putB_app (γ0 : List T) (k : Nat) (γ : List T) : putB γ0 k γ = match γ0[k]? with
  | some (.d x) => γ.set k (.d x)
  | _ => γ := rfl
def resto : List Nat → List T → List T → List T
  | [], _, γ => γ
  | k :: vs, γ0, γ => resto vs γ0 (putB γ0 k γ)
@[simp] theorem resto_nil (γ0 γ : List T) : resto [] γ0 γ = γ := rfl
@[simp] theorem resto_cons (k : Nat) (vs : List Nat) (γ0 γ : List T) : resto (k :: vs) γ0 γ = resto vs γ0 (putB γ0 k γ) := rfl
def eLcW (vs : List Nat) (it : List T → Option (List D × List T)) (g : D → List T → Option (List T)) (c : List T → Option (Bool × List T)) (f : List T → Option (T × List T)) : List T → Option (T × List T) := fun γ =>
  if vs.Nodup then (it γ).bind fun p => if vs.all (isDE p.2) = true ∧ p.1.length < sizeLine then (lcE vs g c f p.1 (unset vs p.2)).bind fun r => if vs.all (isEm r.2) = true then some (.lst r.1, resto vs p.2 r.2) else none else none else none
@[simp] theorem eLcW_app (vs : List Nat) (it : List T → Option (List D × List T)) (g : D → List T → Option (List T)) (c : List T → Option (Bool × List T)) (f : List T → Option (T × List T)) (γ : List T) : eLcW vs it g c f γ =
  if vs.Nodup then (it γ).bind fun p => if vs.all (isDE p.2) = true ∧ p.1.length < sizeLine then (lcE vs g c f p.1 (unset vs p.2)).bind fun r => if vs.all (isEm r.2) = true then some (.lst r.1, resto vs p.2 r.2) else none else none else none := rfl
end
end FD
namespace FD
open PySem PySem.Spec PyProof.Rows L2
section
variable {κ : Type} [DecidableEq κ]
/-- the unlike ones, in the order met -/
def metK (ks : List κ) : List κ := ks.foldl (fun m k => if k ∈ m then m else m ++ [k]) []
theorem metK_snoc (ks : List κ) (k : κ) : metK (ks ++ [k]) = if k ∈ metK ks then metK ks else metK ks ++ [k] := by unfold metK; rw [List.foldl_append]; rfl
@[elab_as_elim] theorem revInd {C : List κ → Prop} (ks : List κ) (h0 : C []) (h1 : ∀ as a, C as → C (as ++ [a])) : C ks := by
  have key : ∀ bs : List κ, C bs.reverse := fun bs => by
    induction bs with
    | nil => exact h0
    | cons b bs ih => rw [List.reverse_cons]; exact h1 _ _ ih
  have := key ks.reverse
  rwa [List.reverse_reverse] at this
theorem metK_mem {x : κ} {ks : List κ} : x ∈ metK ks ↔ x ∈ ks := by
  refine revInd ks ?_ (fun as a ih => ?_)
  · simp [metK]
  rw [metK_snoc]
  by_cases h : a ∈ metK as
  · rw [if_pos h, ih, List.mem_append, List.mem_singleton]
    exact ⟨.inl, fun q => q.elim id fun e => e ▸ ih.mp (e ▸ h)⟩
  · rw [if_neg h, List.mem_append, List.mem_append, ih]
theorem metK_nodup (ks : List κ) : (metK ks).Nodup := by
  refine revInd ks ?_ (fun as a ih => ?_)
  · simp [metK]
  rw [metK_snoc]
  split
  · exact ih
  · rename_i h
    exact List.nodup_append.mpr ⟨ih, by simp, fun x hx y hy e => h (by rw [← List.mem_singleton.mp hy, ← e]; exact hx)⟩
theorem metK_len (ks : List κ) : (metK ks).length ≤ ks.length := by
  refine revInd ks ?_ (fun as a ih => ?_)
  · simp [metK]
  rw [metK_snoc]
  split <;> simp <;> omega
end
end FD
namespace FD
open PySem PySem.Spec PyProof.Rows L2
end FD
namespace FD
open PySem PySem.Spec PyProof.Rows L2
theorem keys_at {P : Program} {w : PySem.World} : ∀ {ks : List Key} {us : List Value}, Vals (ks.map kV) us → us.length = ks.length ∧ ∀ (i : Nat) (u : Value), us.toArray[i]? = some u → ∃ x, ks[i]? = some x ∧ (mixKind P w).is x u = true ∧ u.scannable = true
  | [], _, h => by cases h; exact ⟨rfl, fun i u e => by simp at e⟩
  | k :: ks, _, h => by
    cases h with
    | @cons _ u _ us r rs =>
      obtain ⟨hl, hk⟩ := keys_at rs
      refine ⟨by simp [hl], fun i v e => ?_⟩
      cases i with
      | zero => simp at e; subst e; exact ⟨k, rfl, kV_is r, key_scan r⟩
      | succ i => exact hk i v (by simpa using e)
def allK : List D → Option (List Key)
  | [] => some []
  | d :: ds => (toK d).bind fun k => (allK ds).map (k :: ·)
section
variable {K : PySem.W.Frag} {wr : List Nat} {ta tb tc te to td ty tx : TE} {tt tu : TT} {ts tv : TS} {I I' H H' : Hp} {γ γ' : List T} {σ : Sg} {L : List Addr} {t : T} {v : V} {x : D} {C : Addr} {ns : List Str} {fn : Str}
theorem toKV {d : D} {k : Key} {v : V} (e : toK d = some k) (h : Is K I v d) : v = kV k := by
  cases d <;> simp [toK] at e <;> subst e <;> cases h <;> rfl
theorem allK_is : ∀ {ds : List D} {ks : List Key} {vs : List V}, allK ds = some ks → IsA K I vs ds → vs = ks.map kV
  | [], ks, vs, e, h => by cases e; cases h; rfl
  | d :: ds, ks, vs, e, h => by
    cases h with
    | cons h1 h2 =>
      unfold allK at e
      obtain ⟨k, e1, e⟩ := Option.bind_eq_some_iff.mp e
      obtain ⟨ks', e2, e⟩ := Option.map_eq_some_iff.mp e
      subst e
      rw [toKV e1 h1, allK_is e2 h2]
      rfl
/-- of an instance -/
def pCon (C : Addr) (ns : List Str) (x : D) (f : List T → Option D) : List T → Option D := fun γ => (f γ).bind fun y => match y with
  | .ins C' ns' _ => if C' = C ∧ ns' = ns then some x else none
  | _ => none
abbrev MTab := List (Addr × List Str × FN)
def mLook : MTab → Addr → List Str → Option FN
  | [], _, _ => none
  | (C, ns, g) :: l, C', ns' => if C' = C then (if ns' = ns then some g else none) else mLook l C' ns'
def pMethD (l : MTab) (f : List T → Option D) (a : List T → Option (List D)) : List T → Option D := fun γ => (f γ).bind fun x => match x with
  | .ins C' ns' ds => (mLook l C' ns').bind fun g => (a γ).bind fun xs => (match g (.d (.ins C' ns' ds) :: xs.map .d) with
    | some (.ret r _) => r.toD
    | _ => none)
  | _ => none
abbrev FTab := List (Addr × List Str × Nat)
def fLook : FTab → Addr → List Str → Option Nat
  | [], _, _ => none
  | (C, ns, i) :: l, C', ns' => if C' = C then (if ns' = ns then some i else none) else fLook l C' ns'
def pFldD (l : FTab) (f : List T → Option D) : List T → Option D := fun γ => (f γ).bind fun x => match x with
  | .ins C' ns' ds => (fLook l C' ns').bind fun i => ds[i]?
  | _ => none
abbrev CTab := List (Addr × List Str × D)
def cLook : CTab → Addr → List Str → Option D
  | [], _, _ => none
  | (C, ns, x) :: l, C', ns' => if C' = C then (if ns' = ns then some x else none) else cLook l C' ns'
def pConD (l : CTab) (f : List T → Option D) : List T → Option D := fun γ => (f γ).bind fun x => match x with
  | .ins C' ns' ds => cLook l C' ns'
  | _ => none
end
end FD
namespace FD
open PySem PySem.Spec PyProof.Rows L2
abbrev leD (x y : D) : Bool := PySem.W.dataLe false D.py x y
def sortOk (ds : List D) : Prop := (∀ d ∈ ds, D.pure d = true) ∧ PySem.W.AllAlike (ds.map D.py) ∧ PySem.W.Sortable (ds.map D.py) ∧ (∀ d ∈ ds, d.py.depth ≤ 50) ∧ ds.length ≤ 100000
def rSortD (K : PySem.W.Frag) : List V → Hp → VK → Prop := fun vs H Q => ∃ (a : Addr) (I : Hp) (xs : List V) (ds : List D), vs = [.ref a] ∧ (SqL K H a xs ∨ SqT K H a xs) ∧ Ex I H ∧ IsA K I xs ds ∧ sortOk ds ∧
  ∀ (p : Addr) (ps : List (V × D)), ps.Perm (xs.zip ds) → ps.map (·.2) = ds.mergeSort leD → H p = none → Q (.ref p) (upd H p (.lst (ps.map (·.1))))
theorem isA_zip {K : PySem.W.Frag} {I : Hp} : ∀ {xs : List V} {ds : List D}, IsA K I xs ds → ∀ z ∈ xs.zip ds, Is K I z.1 z.2
  | _, _, .nil, z, h => by simp at h
  | _, _, .cons a t, z, h => by
    rcases List.mem_cons.mp h with rfl | h
    · exact a
    · exact isA_zip t z h
theorem isA_zips {K : PySem.W.Frag} {I : Hp} : ∀ {ps : List (V × D)}, (∀ z ∈ ps, Is K I z.1 z.2) → IsA K I (ps.map (·.1)) (ps.map (·.2))
  | [], _ => .nil
  | z :: ps, h => .cons (h z (by simp)) (isA_zips fun y m => h y (by simp [m]))
theorem zip_eachIs {xs : List V} {us : List Value} {ds : List D} (r : Vals xs us) (hl : xs.length = ds.length) : PySem.W.EachIs (fun u (z : V × D) => RelV z.1 u) us (xs.zip ds) := by
  induction r generalizing ds with
  | nil => exact .nil
  | cons a t ih =>
    cases ds with
    | nil => simp at hl
    | cons d ds => exact .cons a (ih (by simpa using hl))
theorem mergeSort_map {α β : Type} (f : α → β) (le : β → β → Bool) (tr : ∀ a b c, le a b = true → le b c = true → le a c = true) (to : ∀ a b, (le a b || le b a) = true) (l : List α) : (l.mergeSort fun a b => le (f a) (f b)).map f = (l.map f).mergeSort le := by
  rw [List.map_mergeSort (r := fun a b => le (f a) (f b)) (s := le) (f := f) (fun a _ b _ => rfl)]
section
variable {X : Cx}
theorem eachIs_get {α β : Type} {R : α → β → Prop} : ∀ {xs : List α} {ys : List β}, PySem.W.EachIs R xs ys → xs.length = ys.length ∧ ∀ (j : Nat) (x : α) (y : β), xs[j]? = some x → ys[j]? = some y → R x y
  | _, _, .nil => ⟨rfl, fun j x y h => by simp at h⟩
  | _, _, .cons a t => by
    obtain ⟨l, q⟩ := eachIs_get t
    refine ⟨by simp [l], fun j x y h g => ?_⟩
    cases j with
    | zero => simp at h g; subst h g; exact a
    | succ j => exact q j x y (by simpa using h) (by simpa using g)
theorem eachIs_vals : ∀ {us : List Value} {ps : List (V × D)}, PySem.W.EachIs (fun u (z : V × D) => RelV z.1 u) us ps → Vals (ps.map (·.1)) us
  | _, _, .nil => .nil
  | _, _, .cons a t => .cons a (eachIs_vals t)
theorem cr_sortD (hu : X.A.units + 64 < cLine) : CallR X (.builtin "sorted") (rSortD X.K) := by
  intro pins s σ H vs us Q I r h
  obtain ⟨a, I0, xs, ds, rfl, hq, hx, hd, ⟨s1, s2, s3, s4, s5⟩, q⟩ := h
  obtain rfl := Vals.ref1 r
  have hlen := hd.length
  have dpA := isA_zip hd
  obtain ⟨T, o, its, n, hT, ho, hc, hdat, rel⟩ : ∃ (T : String) (o : Obj) (its : List Value) (n : Nat), (T = "list" ∨ T = "tuple") ∧ s.heap.get? a = some o ∧ o.cls = .type T ∧ o.data = .seq its.toArray n ∧ Vals xs its := by
    rcases hq with hq | hq
    · obtain ⟨its, r, pl, _⟩ := I.list hq
      obtain ⟨o, ho, hc, n, hd⟩ := pl.isList
      exact ⟨"list", o, its, n, .inl rfl, ho, hc, hd, r⟩
    · obtain ⟨its, r, pl, _⟩ := I.tuple hq
      obtain ⟨o, ho, hc, n, hd⟩ := pl
      exact ⟨"tuple", o, its, n, .inr rfl, ho, hc, hd, r⟩
  have hil : its.length = xs.length := (Vals.length rel).symm
  have hz : its.length ≤ sizeLine := by rw [hil, hlen, sizeLine_eq]; omega
  refine PySem.Calls.call_function_entry kind_sorted plain_sorted entry_sorted (args_sorted1 _) ?_
  unfold Builtin.«sorted»
  refine wpAny_bind (m := checkCount "sorted" 1 1 _) (wpAny_pure (wpAny_bind (wpAny_collect_seq a hT ho hc hdat (fun h1 k1 => ?_) (by rw [List.size_toArray]; exact hz))))
  rw [List.toList_toArray]
  refine wpAny_bind (wpAny_newList ?_ hz)
  have hob : (h1.push { cls := .type "list", data := .seq its.toArray }).get? h1.objs.size = some (seqObj "list" its.toArray 0) := Heap.get?_push_size _ rfl
  have ka : ∀ b o, h1.get? b = some o → (h1.push { cls := .type "list", data := .seq its.toArray }).get? b = some o := fun b o e => Heap.get?_push_of_some _ e
  have ne0 : ∀ b o, h1.get? b = some o → b ≠ h1.objs.size := fun b o e => Nat.ne_of_lt (Heap.lt_size e)
  have dead : h1.get? h1.objs.size = none := by
    cases e : h1.get? h1.objs.size with
    | none => rfl
    | some o => exact absurd rfl (ne0 _ _ e)
  have Ic : Inv X pins σ H { s with heap := h1 } := I.kept (t' := s.toks) k1
  generalize hh2 : h1.push { cls := .type "list", data := .seq its.toArray } = h2 at hob ka ⊢
  have e1 : PySem.W.EachIs (fun u (z : V × D) => RelV z.1 u) its (xs.zip ds) := zip_eachIs rel hlen
  have er : PySem.W.EachIs (fun u (z : V × D) => ∃ as, Reads h2 u z.2.py as ∧ h1.objs.size ∉ as) its (xs.zip ds) := by
    obtain ⟨l1, g1⟩ := eachIs_get e1
    refine each_get l1 fun j u z hu hz => ?_
    have hm := List.mem_of_getElem? hz
    have hp : D.pure z.2 = true := s1 _ (List.of_mem_zip hm).2
    obtain ⟨as, r'⟩ := Dp.reads I z.2.py z.1 u ((dpA z hm).dp hx hp) (g1 j u z hu hz)
    have r2 : Reads h1 u z.2.py as := PyProof.Rows.Reads.keeps k1 r'
    refine ⟨as, PyProof.Rows.Reads.keeps ka r2, fun hm => ?_⟩
    obtain ⟨o, ho'⟩ := PySem.W.fd_live r2 _ hm
    rw [dead] at ho'
    cases ho'
  have mz : ∀ z ∈ xs.zip ds, z.2 ∈ ds := fun z hz => (List.of_mem_zip hz).2
  have zmap : (xs.zip ds).map (fun z => z.2.py) = ds.map D.py := by
    rw [← List.map_snd_zip (l₁ := xs) (l₂ := ds) (by omega), List.map_map, List.map_snd_zip (by omega)]
    rfl
  refine wpAny_bind (wpAny_holding (wpAny_mono (PySem.W.list_sort_data (s := { s with heap := h2 }) (enc := fun z : V × D => z.2.py) (Q := fun _ s' => EP X pins σ Q (.ref h1.objs.size) s') hob e1 er ?_ ?_ ?_ (fun z hz => ?_) fun out o1 o2 => ?_) (fun _ s' x => ?_) fun _ _ e => e))
  · rw [zmap]; exact s2
  · rw [zmap]; exact s3
  · rw [← e1.length]; exact hz
  · have := s4 _ (mz z hz)
    show X.A.units + 1 + 1 + _ < cLine
    omega
  · let ps : List (V × D) := (xs.zip ds).mergeSort (PySem.W.dataLe false fun z => z.2.py)
    have pp : ps.Perm (xs.zip ds) := List.mergeSort_perm _ _
    have kF : ∀ b o, b ≠ h1.objs.size → h2.get? b = some o → (sortedHeap h2 h1.objs.size its (List.toArray out)).get? b = some o := fun b o hb e => (PyProof.Rows.sortedHeap_old hb (Heap.lt_size e)).trans e
    have kS : ∀ b o, s.heap.get? b = some o → (sortedHeap h2 h1.objs.size its (List.toArray out)).get? b = some o := fun b o e => kF b o (ne0 _ _ (k1 b o e)) (ka b o (k1 b o e))
    obtain ⟨eF, heF⟩ := PyProof.Rows.sortedHeap_at (vs := its) (out := List.toArray out) hob
    have I1 : Inv X pins σ H { s with heap := sortedHeap h2 h1.objs.size its (List.toArray out) } := I.kept (t' := s.toks) kS
    have hn0 : H h1.objs.size = none := Ic.hok.fresh (Nat.le_refl _)
    have rv : Vals (ps.map (·.1)) (List.toArray out).toList := by
      rw [List.toList_toArray]
      exact eachIs_vals o2
    have hlp : (ps.map (·.1)).length ≤ sizeLine := by
      have := pp.length_eq
      rw [List.length_zip] at this
      rw [List.length_map, sizeLine_eq]
      omega
    have I2 : Inv X pins σ (upd H h1.objs.size (.lst (ps.map (·.1)))) { s with heap := sortedHeap h2 h1.objs.size its (List.toArray out) } :=
      I1.take (h' := sortedHeap h2 h1.objs.size its (List.toArray out)) (t' := s.toks) (fun b ob _ e => e) (Ic.fpOk (Nat.le_refl _) hn0) ⟨hlp, (List.toArray out).toList, eF, rv, heF⟩
    refine ⟨.ref h1.objs.size, _, I2, rfl, q _ ps pp ?_ hn0⟩
    have tot : PySem.W.TotalLe (PySem.W.dataLe false D.py) := PySem.W.sortLe_total (PyProof.Rows.listOrd PyProof.Rows.itemOrd) false fun b => PySem.W.keyToks (D.py b)
    have := mergeSort_map (fun z : V × D => z.2) leD (fun a b c => tot.trans a b c) (fun a b => by rw [Bool.or_eq_true]; exact tot.total a b) (xs.zip ds)
    rw [List.map_snd_zip (by omega)] at this
    exact this
  · exact wpAny_pure ⟨_, rfl, x⟩
noncomputable def oSortD (x : D) : Option D := (items x).bind fun ds => open Classical in if sortOk ds then some (.lst (ds.mergeSort leD)) else none
theorem sortD_t {K : PySem.W.Frag} : ∀ x z, oSortD x = some z → CallT K (fun v => rSortD K [v]) x z := fun x z e I H v s hv Q q => by
  obtain ⟨ds, e1, e⟩ := Option.bind_eq_some_iff.mp e
  split at e
  · rename_i hs
    cases e
    have key : ∀ a xs, v = .ref a → (SqL K H a xs ∨ SqT K H a xs) → IsA K I xs ds → rSortD K [v] H Q := fun a xs ev hq hd => by
      subst ev
      refine ⟨a, I, xs, ds, rfl, hq, s, hd, hs, fun p ps pp e2 hp => ?_⟩
      obtain ⟨n, s'⟩ := alloc (o := .lst (ps.map (·.1))) s hp
      refine q _ _ _ n s' (.lst (sq_of upd_same) ?_)
      rw [← e2]
      have hm := isA_zip hd
      exact (isA_zips fun z hz => hm z (pp.mem_iff.mp hz)).mono n.i
    unfold items at e1
    split at e1
    · cases e1
      obtain ⟨a, xs, rfl, h1, h2⟩ := hv.l s
      exact key a xs rfl (.inl h1) h2
    · cases e1
      obtain ⟨a, xs, rfl, h1, h2⟩ := hv.t s
      exact key a xs rfl (.inr h1) h2
    · cases e1
  · cases e
end
end FD
namespace FD
open PySem PySem.Spec PyProof.Rows L2
abbrev EqTab := List (Addr × List Addr × FN)
def besideC (C : Addr) (cs : List Addr) : D → Bool
  | .ins C' _ _ => decide (C' = C) || cs.contains C'
  | .int _ => true
  | .str _ => true
  | _ => false
def eqOne (C : Addr) (cs : List Addr) (g : FN) (x y : D) : Option D := if besideC C cs y = true then (match g [.d x, .d y] with
  | some (.ret (.d (.bl b)) _) => some (.bl b)
  | _ => none) else none
def oEqD : EqTab → D → D → Option D
  | [], _, _ => none
  | (C, cs, g) :: l, .ins C' ns ds, y => if C' = C then eqOne C cs g (.ins C' ns ds) y else oEqD l (.ins C' ns ds) y
  | _, _, _ => none
def oNeD (l : EqTab) (x y : D) : Option D := (oEqD l x y).bind fun z => match z with
  | .bl b => some (.bl (!b))
  | _ => none
section
variable {K : PySem.W.Frag} {wr : List Nat} {W : WX'} {ta tb tc te to td ty tx : TE} {tt tu : TT} {ts tv : TS} {I I' H H' : Hp} {γ γ' : List T} {σ : Sg} {L : List Addr} {t : T} {v : V} {x : D} {C : Addr} {ns : List Str} {fn : Str}
inductive IsiTab (K : PySem.W.Frag) (C : Addr) : List (Addr × Bool) → Prop
  | nil : IsiTab K C []
  | cons {C' : Addr} {b : Bool} {l : List (Addr × Bool)} : IsiO K C' → PySem.W.kitOne K (.ref C') (.ref C) = some b → IsiTab K C l → IsiTab K C ((C', b) :: l)
theorem IsiTab.look : ∀ {l : List (Addr × Bool)} {C' : Addr} {b : Bool}, IsiTab K C l → l.lookup C' = some b → IsiO K C' ∧ PySem.W.kitOne K (.ref C') (.ref C) = some b
  | _, _, _, .nil, e => by cases e
  | (C1, b1) :: l, C', b, .cons o k t, e => by
    by_cases h : C' = C1
    · subst h; simp [List.lookup] at e; subst e; exact ⟨o, k⟩
    · rw [List.lookup_cons, show (C' == C1) = false from by simpa using h] at e
      exact t.look e
def oIsiD (l : List (Addr × Bool)) (C : Addr) (x y : D) : Option D := match y with
  | .raw (.ref C') => if C' = C then (match x with
    | .ins C' _ _ => (l.lookup C').map .bl
    | x => if x.typed then some (.bl false) else none) else none
  | _ => none
end
section
variable {K : PySem.W.Frag} {wr : List Nat} {W : WX'} {te : TE} {I I' H H' : Hp} {γ γ' : List T} {σ : Sg} {L : List Addr} {C : Addr}
/-- the arguments of a def with a star: the object and one tuple -/
def eMakeV (C : Addr) (g : FN) (a : List T → Option (List D)) : List T → Option (T × List T) := fun γ => (a γ).bind fun xs => if xs.length ≤ sizeLine then makeF C g [none] [.d (.tup xs)] γ else none
def xMakeV (C : Addr) (g : FN) (a : List T → Option (List D)) : List T → Option EO := fun γ => (a γ).bind fun xs => if xs.length ≤ sizeLine then makeX C g [none] [.d (.tup xs)] γ else none
def eMakeW (C : Addr) (g : FN) (f : List T → Option D) : List T → Option (T × List T) := fun γ => (f γ).bind fun x => (items x).bind fun xs => if xs.length ≤ sizeLine then makeF C g [none] [.d (.tup xs)] γ else none
def xMakeW (C : Addr) (g : FN) (f : List T → Option D) : List T → Option EO := fun γ => (f γ).bind fun x => (items x).bind fun xs => if xs.length ≤ sizeLine then makeX C g [none] [.d (.tup xs)] γ else none
end
theorem kb_plain {K : PySem.W.Frag} {fd : FuncData} {ps : List Str} {n : Nat} (hb : L2.Binds K fd ps []) (hn : ps.length = n) : KBn K fd ps n [] (fun us ws => us ++ ws) (fun vs zs => vs ++ zs) := ⟨fun s us ws hK h1 h2 => by
  obtain rfl : ws = [] := List.length_eq_zero_iff.mp h2
  have := hb s us hK (by simp [hn, h1])
  simpa using this, fun r1 r2 => r1.append r2⟩
end FD
namespace FD
open PySem PySem.Spec PyProof.Rows L2
def oMulS (x y : D) : Option D := match x, y with
  | .str a, .int n => if (0 ≤ n ∧ n ≤ 1000000) ∧ a.length * n.toNat ≤ 1000000 then some (.str (Txt.mul a n)) else none
  | _, _ => none
@[simp] theorem oMulS_s (a : Str) (n : Int) : oMulS (.str a) (.int n) = if (0 ≤ n ∧ n ≤ 1000000) ∧ a.length * n.toNat ≤ 1000000 then some (.str (Txt.mul a n)) else none := rfl
end FD
namespace FD
open PySem PySem.Spec PyProof.Rows L2
mutual
def D.tl : D → Bool
  | .non => true
  | .bl _ => true
  | .int _ => true
  | .str _ => true
  | .raw _ => true
  | .tup ds => D.tls ds
  | _ => false
def D.tls : List D → Bool
  | [] => true
  | d :: ds => d.tl && D.tls ds
end
/-- the frozen part without L -/
noncomputable def cutI (I : Hp) (L : List Addr) : Hp := fun a => open Classical in if a ∈ L then none else I a
section
variable {K : PySem.W.Frag} {ta tb tc te to : TE} {tt tu : TT} {I I' H H' : Hp} {γ γ' : List T} {σ : Sg} {L : List Addr} {t : T} {v : V} {x : D}
theorem cutI_in {a : Addr} (h : a ∈ L) : cutI I L a = none := by unfold cutI; simp [h]
theorem cutI_out {a : Addr} (h : a ∉ L) : cutI I L a = I a := by unfold cutI; simp [h]
theorem cutI_some {a : Addr} {o : HO} (h : cutI I L a = some o) : a ∉ L ∧ I a = some o := by
  by_cases z : a ∈ L
  · rw [cutI_in z] at h; cases h
  · exact ⟨z, by rwa [cutI_out z] at h⟩
def NTup (o : Option HO) : Prop := ∀ xs, o ≠ some (.tup xs) ∧ ∀ ob, o ≠ some (.frz ob (.tup xs))
mutual
theorem Ow.nt : ∀ {t : T} {v : V} {L : List Addr}, Ow K I H v t L → ∀ a ∈ L, NTup (H a)
  | .em, _, _, h => by cases h; intro a h; cases h
  | .d _, _, _, h => by cases h with | d h => intro a h; cases h
  | .lst _, _, _, h => by
    cases h with
    | lst h1 h2 => intro a ha xs; rw [List.mem_singleton.mp ha, h1]; exact ⟨fun z => (nomatch z), fun _ z => (nomatch z)⟩
  | .dic _ _, _, _, h => by
    cases h with
    | dic h1 h2 h3 =>
      intro a ha
      rcases List.mem_cons.mp ha with rfl | ha
      · intro xs; rw [h1]; exact ⟨fun z => (nomatch z), fun _ z => (nomatch z)⟩
      · exact OwA.nt h3 a ha
  | .obj _ _ _, _, _, h => by
    cases h with
    | obj h0 h1 h2 h3 h4 =>
      intro a ha
      rcases List.mem_cons.mp ha with rfl | ha
      · intro xs; rw [h1]; exact ⟨fun z => (nomatch z), fun _ z => (nomatch z)⟩
      · rcases List.mem_cons.mp ha with rfl | ha
        · intro xs; rw [h2]; exact ⟨fun z => (nomatch z), fun _ z => (nomatch z)⟩
        · exact OwA.nt h4 a ha
theorem OwA.nt : ∀ {ts : List T} {vs : List V} {L : List Addr}, OwA K I H vs ts L → ∀ a ∈ L, NTup (H a)
  | [], _, _, h => by cases h; intro a h; cases h
  | _ :: _, _, _, h => by
    cases h with
    | cons h1 h2 => intro a ha; exact (List.mem_append.mp ha).elim (Ow.nt h1 a) (OwA.nt h2 a)
end
mutual
theorem Is.unf (hL : ∀ a ∈ L, NTup (I a)) : ∀ {x : D} {v : V}, Is K I v x → x.tl = true → Is K (cutI I L) v x
  | .non, _, h, _ => by cases h; exact .non
  | .bl _, _, h, _ => by cases h; exact .bl _
  | .int _, _, h, _ => by cases h; exact .int _
  | .str _, _, h, _ => by cases h; exact .str _
  | .raw _, _, h, _ => by cases h; exact .raw _
  | .tup ds, _, h, e => by
    cases h with
    | @tup a xs _ h1 h2 =>
      refine .tup ?_ (IsA.unf hL h2 e)
      rcases h1 with h1 | h1
      · refine .inl ?_
        have : a ∉ L := fun z => h1.elim (fun q => (hL a z xs).1 q) fun ⟨o, q⟩ => (hL a z xs).2 o q
        unfold Rd
        rw [cutI_out this]
        exact h1
      · exact .inr h1
  | .lst _, _, _, e => by simp [D.tl] at e
  | .dic _ _, _, _, e => by simp [D.tl] at e
  | .ins _ _ _, _, _, e => by simp [D.tl] at e
theorem IsA.unf (hL : ∀ a ∈ L, NTup (I a)) : ∀ {ds : List D} {vs : List V}, IsA K I vs ds → D.tls ds = true → IsA K (cutI I L) vs ds
  | [], _, h, _ => by cases h; exact .nil
  | _ :: _, _, h, e => by
    cases h with
    | cons h1 h2 =>
      have := Bool.and_eq_true_iff.mp (show (_ && _) = true from e)
      exact .cons (Is.unf hL h1 this.1) (IsA.unf hL h2 this.2)
end
/-- a slot's tree read as data for a while -/
theorem WS.view {i : Nat} (w : WS K γ σ I H L) (h : γ[i]? = some t) (e : t.toD = some x) : ∃ I' L' Li, WS K (γ.set i (.d x)) σ I' H L' ∧
    ∀ I'' H'', New I' H I'' H'' → Ex I'' H'' → New I H (cutI I'' Li) H'' ∧ Ex (cutI I'' Li) H'' ∧ (∀ a ∈ Li, H'' a = H a ∧ NTup (I'' a)) := by
  have ht : t ≠ .em := fun z => by subst z; simp [T.toD] at e
  obtain ⟨v, h1, Li, h2, h3, h4, h5⟩ := w.stepSlot h ht
  obtain ⟨I', f, q⟩ := h2.frz e h3 h4 w.sub
  obtain ⟨L', w', s'⟩ := h5 I' H (.d x) [] ⟨f.i, fun _ _ h _ => h, fun a h => by simp at h, fun a o h => (f.n a o h).elim .inl fun z => .inr (.inl z)⟩ List.nodup_nil (fun a h => by simp at h) f.s (.d q)
  refine ⟨I', L', Li, w', fun I'' H'' n s => ⟨⟨fun a o ha => ?_, n.h, fun a o ha => ?_⟩, fun a o ha => s a o (cutI_some ha).2, fun a ha => ?_⟩⟩
  · have : a ∉ Li := fun z => by rw [h4 a z] at ha; cases ha
    rw [cutI_out this]
    exact n.i a o (f.i a o ha)
  · obtain ⟨z, ha⟩ := cutI_some ha
    rcases n.n a o ha with ha | ha
    · exact (f.n a o ha).elim .inl fun y => absurd y z
    · exact .inr ha
  · have live := h2.live a ha
    cases hH : H a with
    | none => exact absurd hH live
    | some o =>
      have hH2 := n.h a o hH
      refine ⟨hH2, fun xs => ?_⟩
      have nt := h2.nt a ha xs
      rw [hH] at nt
      cases hI : I'' a with
      | none => exact ⟨fun z => (nomatch z), fun _ z => (nomatch z)⟩
      | some o2 =>
        have := s a o2 hI
        rw [hH2] at this
        cases this
        exact nt
def pWith (i : Nat) (f : List T → Option D) : List T → Option D := fun γ => (γ[i]?).bind fun t => t.toD.bind fun x => (f (γ.set i (.d x))).bind fun z => if z.tl = true then some z else none
theorem pu_with {f : List T → Option D} (i : Nat) (hf : Pu K te f) : Pu K te (pWith i f) := fun γ z e σ I H L w Q k => by
  unfold pWith at e
  obtain ⟨t, e1, e⟩ := Option.bind_eq_some_iff.mp e
  obtain ⟨x, e2, e⟩ := Option.bind_eq_some_iff.mp e
  obtain ⟨z', e3, e⟩ := Option.bind_eq_some_iff.mp e
  split at e
  · rename_i hz
    cases e
    obtain ⟨I', L', Li, w', back⟩ := w.view e1 e2
    refine hf _ _ e3 σ I' H L' w' Q fun v I'' H'' n s hv => ?_
    obtain ⟨n2, s2, b⟩ := back I'' H'' n s
    exact k v _ H'' n2 s2 (hv.unf (fun a ha => (b a ha).2) hz)
  · cases e
def bWith (i : Nat) (f : List T → Option Bool) : List T → Option Bool := fun γ => (γ[i]?).bind fun t => t.toD.bind fun x => f (γ.set i (.d x))
theorem put_with {f : List T → Option Bool} (i : Nat) (hf : PuT K tt f) : PuT K tt (bWith i f) := fun γ b e σ I H L w Q k => by
  unfold bWith at e
  obtain ⟨t, e1, e⟩ := Option.bind_eq_some_iff.mp e
  obtain ⟨x, e2, e⟩ := Option.bind_eq_some_iff.mp e
  obtain ⟨I', L', Li, w', back⟩ := w.view e1 e2
  refine hf _ _ e σ I' H L' w' Q fun I'' H'' n s => ?_
  obtain ⟨n2, s2, _⟩ := back I'' H'' n s
  exact k _ H'' n2 s2
/-- a fresh list -/
def Fu (K : PySem.W.Frag) (te : TE) (f : List T → Option (List D)) : Prop := ∀ γ ds, f γ = some ds → ∀ σ I H L, WS K γ σ I H L → ∀ Q : VK, (∀ a xs I' H', New I H I' H' → Ex I' H' → H' a = some (.lst xs) → I' a = none → H a = none → IsA K I' xs ds → Q (.ref a) H') → te σ H Q
def lWith (i : Nat) (f : List T → Option (List D)) : List T → Option (List D) := fun γ => (γ[i]?).bind fun t => t.toD.bind fun x => (f (γ.set i (.d x))).bind fun z => if D.tls z = true then some z else none
theorem fu_with {f : List T → Option (List D)} (i : Nat) (hf : Fu K te f) : Fu K te (lWith i f) := fun γ z e σ I H L w Q k => by
  unfold lWith at e
  obtain ⟨t, e1, e⟩ := Option.bind_eq_some_iff.mp e
  obtain ⟨x, e2, e⟩ := Option.bind_eq_some_iff.mp e
  obtain ⟨z', e3, e⟩ := Option.bind_eq_some_iff.mp e
  split at e
  · rename_i hz
    cases e
    obtain ⟨I', L', Li, w', back⟩ := w.view e1 e2
    refine hf _ _ e3 σ I' H L' w' Q fun a xs I'' H'' n s h1 h2 h3 hv => ?_
    obtain ⟨n2, s2, b⟩ := back I'' H'' n s
    refine k a xs _ H'' n2 s2 h1 ?_ h3 (hv.unf (fun a ha => (b a ha).2) hz)
    by_cases z : a ∈ Li
    · exact cutI_in z
    · rw [cutI_out z]; exact h2
  · cases e
/-- a fresh list as an owned tree -/
def eFu (f : List T → Option (List D)) : List T → Option (T × List T) := fun γ => (f γ).map fun ds => (.lst ds, γ)
theorem ef_fu {f : List T → Option (List D)} (hf : Fu K te f) : Ef K te (eFu f) := fun γ t γ' e σ I H L w Q k => by
  unfold eFu at e
  obtain ⟨ds, e1, e⟩ := Option.map_eq_some_iff.mp e
  cases e
  refine hf γ ds e1 σ I H L w Q fun a xs I' H' n s h1 h2 h3 h4 => ?_
  have w' := w.new n s
  have ha : a ∉ L := fun z => w.live a z h3
  refine k _ I' H' (a :: L) ⟨.cons (L1 := [a]) (.lst h1 h4) w'.env, ?_, ?_, s⟩ ?_
  · exact List.nodup_cons.mpr ⟨ha, w.nd⟩
  · intro b hb
    rcases List.mem_cons.mp hb with rfl | hb
    · exact h2
    · exact w'.fr b hb
  · exact ⟨n.i, fun b o hb _ => n.h b o hb, fun b hb => by
      rcases List.mem_cons.mp hb with rfl | hb
      · exact .inr h3
      · exact .inl hb, fun b o hb => (n.n b o hb).elim .inl fun z => .inr (.inr z)⟩
end
end FD
namespace FD
open PySem PySem.Spec PyProof.Rows L2
section
variable {K : PySem.W.Frag} {ta tb tc te to td ty tx tv : TE} {tt tu : TT} {I I' H H' : Hp} {γ γ' : List T} {σ : Sg} {L : List Addr} {t : T} {v : V} {x : D} {wr : List Nat} {W : WX'} {ts t1 t2 : TS}
/-- slot j bears the value at the place (i, p) -/
def Al (γ : List T) (σ : Sg) (H : Hp) (j i : Nat) (p : Pth) : Prop := ∃ v v0 t, σ[i]? = some (some v0) ∧ γ[i]? = some t ∧ At H v0 t p v ∧ σ[j]? = some (some v)
def RunA (K : PySem.W.Frag) (wr : List Nat) (W : WX') (j i : Nat) (p : Pth) (ts : TS) (f : List T → Option O) : Prop := ∀ γ o, f γ = some o → ∀ σ I H L, WS K γ σ I H L → Al γ σ H j i p → ∀ Dn : Ends, PostS K wr W Dn σ I H L o → ts Dn σ H
variable {j i k : Nat} {p : Pth}
/-- x = place, then the rest -/
def sAl (j : Nat) (l : List T → Option (Nat × Pth)) (b : Nat × Pth → List T → Option O) : List T → Option O := fun γ => (l γ).bind fun p => if isEm γ j = true ∧ j ≠ p.1 ∧ j < γ.length then b p γ else none
theorem rs_al {l : List T → Option (Nat × Pth)} {b : Nat × Pth → List T → Option O} (hj : j ∈ wr) (hl : Lo K te l) (hb : ∀ i p, RunA K wr W j i p ts (b (i, p))) : RunS K wr W (tSeq (tAsg te (gName j)) ts) (sAl j l b) := fun γ o e σ I H L w Dn q => by
  unfold sAl at e
  obtain ⟨⟨i, p⟩, e1, e⟩ := Option.bind_eq_some_iff.mp e
  split at e
  · rename_i h
    obtain ⟨h1, h2, h3⟩ := h
    refine hl γ i p e1 σ I H L w _ fun v v0 t g1 g2 g3 => ?_
    have w2 : WS K γ (σ.set j (some v)) I H L := ⟨w.env.setX (some v) j h1, w.nd, w.fr, w.sub⟩
    have hlen := w.env.len
    refine hb i p γ o e _ I H L w2 ⟨v, v0, t, ?_, g2, g3, ?_⟩ Dn (PostS.later (Step.refl I H L) (.set hj) q)
    · rw [List.getElem?_set_ne h2]; exact g1
    · rw [List.getElem?_set_self (by omega)]
  · cases e
theorem Al.keep {I' H' : Hp} (a : Al γ σ H j i p) (e : Ex H H') : Al γ σ H' j i p := by
  obtain ⟨v, v0, t, h1, h2, h3, h4⟩ := a
  exact ⟨v, v0, t, h1, h2, h3.keep e, h4⟩
/-- y = e, e pure, then the rest -/
def sAsgA (k : Nat) (f : List T → Option D) (b : List T → Option O) : List T → Option O := fun γ => (f γ).bind fun x => b (γ.set k (.d x))
theorem ra_seqG {f : List T → Option D} {b : List T → Option O} (hf : ∀ γ x, f γ = some x → ∀ σ I H L, WS K γ σ I H L → Al γ σ H j i p → ∀ Q : VK, (∀ v I' H', New I H I' H' → Ex I' H' → Is K I' v x → Q v H') → te σ H Q) (hk : k ∈ wr) (ki : k ≠ i) (kj : k ≠ j) (hb : RunA K wr W j i p ts b) : RunA K wr W j i p (tSeq (tAsg te (gName k)) ts) (sAsgA k f b) := fun γ o e σ I H L w a Dn q => by
  unfold sAsgA at e
  obtain ⟨x, e1, e⟩ := Option.bind_eq_some_iff.mp e
  refine hf γ x e1 σ I H L w a _ fun v I1 H1 n1 s1 hv => ?_
  have w1 := w.new n1 s1
  obtain ⟨L2, w2, s2⟩ := (w1.front hv).setF k
  obtain ⟨v', v0, t, h1, h2, h3, h4⟩ := a
  refine hb _ o e _ I1 H1 L2 w2 ⟨v', v0, t, ?_, ?_, h3.keep n1.h, ?_⟩ Dn (PostS.later (n1.stp.trans s2) (.set hk) q)
  · rw [List.getElem?_set_ne ki]; exact h1
  · rw [List.getElem?_set_ne ki]; exact h2
  · rw [List.getElem?_set_ne kj]; exact h4
/-- if c: block that ends the def; the rest -/
def sIfA (c : List T → Option Bool) (f g : List T → Option O) : List T → Option O := fun γ => (c γ).bind fun b => if b = true then f γ else g γ
theorem ra_if {c : List T → Option Bool} {f g : List T → Option O} (hc : PuT K tt c) (hf : RunS K wr W t1 f) (hr : ∀ γ o, f γ = some o → ∃ r γ1, o = .rt r γ1) (hb : RunA K wr W j i p ts g) : RunA K wr W j i p (tSeq (tIfS tt t1 tNext) ts) (sIfA c f g) := fun γ o e σ I H L w a Dn q => by
  unfold sIfA at e
  obtain ⟨b, e1, e⟩ := Option.bind_eq_some_iff.mp e
  refine hc γ b e1 σ I H L w _ fun I1 H1 n1 s1 => ?_
  have w1 := w.new n1 s1
  cases b with
  | true =>
    rw [if_pos rfl] at e
    obtain ⟨r, γ1, rfl⟩ := hr _ _ e
    exact hf γ _ e σ I1 H1 L w1 _ (PostS.later (o := .rt r γ1) n1.stp (.refl σ) q)
  | false =>
    rw [if_neg (by simp)] at e
    exact hb γ o e σ I1 H1 L w1 (a.keep (I' := I1) n1.h) Dn (PostS.later n1.stp (.refl σ) q)
/-- x.get(k, e) at the second name -/
def pGet2A (p : Nat × Pth) (g h : List T → Option D) : List T → Option D := fun γ => (gAt γ p.1 p.2).bind fun t => t.top.bind fun x => (g γ).bind fun y => (h γ).bind fun z => match x with
  | .dic ks ds => (toK y).map fun k => (atK ks ds k).getD z
  | _ => none
theorem pa_get2 {g h : List T → Option D} (hg : Cu K ty g) (hh : Pu K tx h) : ∀ γ z, pGet2A (i, p) g h γ = some z → ∀ σ I H L, WS K γ σ I H L → Al γ σ H j i p → ∀ Q : VK, (∀ v I' H', New I H I' H' → Ex I' H' → Is K I' v z → Q v H') → tDGet2 (tVar j) ty tx σ H Q := fun γ z e σ I H L w a Q k => by
  unfold pGet2A at e
  obtain ⟨t, e0, e⟩ := Option.bind_eq_some_iff.mp e
  obtain ⟨x, e1, e⟩ := Option.bind_eq_some_iff.mp e
  obtain ⟨y, e2, e⟩ := Option.bind_eq_some_iff.mp e
  obtain ⟨d0, e3, e⟩ := Option.bind_eq_some_iff.mp e
  split at e
  · rename_i ks ds
    obtain ⟨q, e4, rfl⟩ := Option.map_eq_some_iff.mp e
    obtain ⟨v, v0, t0, a1, a2, a3, a4⟩ := a
    have ht : t ≠ .em := fun z => by subst z; simp [T.top] at e1
    obtain ⟨Li, h4, _⟩ := w.placeV e0 ht a1 a2 a3
    have hv := h4.top e1
    obtain ⟨a0, kvs0, rfl, h01, h02, h03⟩ := hv.k w.sub
    refine ⟨_, a4, a0, rfl, .inl ⟨_, h01⟩, hg γ _ e2 σ I H L w _ fun u I2 H2 n2 s2 hu => hh γ _ e3 σ I2 H2 L (w.new n2 s2) _ fun t I3 H3 n3 s3 ht => ?_⟩
    obtain ⟨a, kvs, ea, h1, h2, h3⟩ := ((hv.new n2).new n3).k s3
    cases ea
    subst h2
    refine ⟨valV kvs q, .inl ⟨kvs, q, h1, toK_v e4 hu, rfl⟩, ?_⟩
    rcases atK_ok (k := q) h3 with ⟨q3, q4⟩ | ⟨u', d, q3, q4, q5⟩
    · rw [q3]
      refine k _ I3 H3 (n2.trans n3) s3 ?_
      rw [q4]; exact ht
    · rw [q3]
      refine k _ I3 H3 (n2.trans n3) s3 ?_
      rw [q4]; exact q5
  · cases e
/-- x[k] = e at the second name, e pure; then the rest -/
def sDPutA (p : Nat × Pth) (f g : List T → Option D) (b : List T → Option O) : List T → Option O := fun γ => (f γ).bind fun x => (gAt γ p.1 p.2).bind fun t => match t with
  | .dic ks ts => (g γ).bind fun y => (toK y).bind fun k => if ks.length < sizeLine then b (gPut γ p.1 p.2 (.dic (putKs ks k) (putTsK ks ts k (.d x)))) else none
  | _ => none
theorem ra_dput {f g : List T → Option D} {b : List T → Option O} (hf : Pu K tv f) (hg : Pu K ty g) (hb : RunS K wr W ts b) : RunA K wr W j i p (tSeq (sDPut (tVar j) ty tv) ts) (sDPutA (i, p) f g b) := fun γ o e σ I H L w a Dn q => by
  unfold sDPutA at e
  obtain ⟨x, e1, e⟩ := Option.bind_eq_some_iff.mp e
  obtain ⟨t, e2, e⟩ := Option.bind_eq_some_iff.mp e
  dsimp only at e2 e
  split at e
  · rename_i ks ts'
    obtain ⟨y, e3, e⟩ := Option.bind_eq_some_iff.mp e
    obtain ⟨k, e4, e⟩ := Option.bind_eq_some_iff.mp e
    split at e
    · rename_i hz
      refine hf γ x e1 σ I H L w _ fun u I2 H1 n2 s2 hy => ?_
      have w2 := w.new n2 s2
      obtain ⟨v, v0, t0, a1, a2, a3, a4⟩ := a.keep (I' := I2) n2.h
      refine ⟨_, a4, hg γ y e3 σ I2 H1 L w2 _ fun z I3 H3 n3 s3 hz3 => ?_⟩
      have w3 := w2.new n3 s3
      obtain ⟨Li, h2, nd, fr, fin⟩ := w3.placeV e2 (fun z => nomatch z) a1 a2 (a3.keep n3.h)
      cases h2 with
      | @dic a kvs _ _ L0 g1 g2 g3 =>
        subst g2
        have nd' := List.nodup_cons.mp nd
        obtain ⟨L', sb, how⟩ := Ow.dput (a := a) (k := k) (hy.mono n3.i) nd'.1 g3
        have hlen : kvs.length < sizeLine := by simpa using hz
        refine ⟨a, _, rfl, .inl ⟨kvs, k, g1, toK_is e4 hz3, hlen, rfl⟩, ?_⟩
        have hsub : ∀ b ∈ a :: L', b ∈ a :: L0 := fun b hb => by
          rcases List.mem_cons.mp hb with rfl | hb
          · exact List.mem_cons_self
          · exact List.mem_cons_of_mem _ (sb.subset hb)
        have hst : Step I3 H3 (a :: L0) I3 (upd H3 a (.dK (putK kvs k u))) (a :: L') := ⟨Ex.refl I3, fun b o e hb => by
          rw [upd_ne (fun z => hb (by rw [z]; exact List.mem_cons_self))]
          exact e, fun b hb => .inl (hsub b hb), fun b o e => .inl e⟩
        have hex : Ex I3 (upd H3 a (.dK (putK kvs k u))) := fun b o e => by
          rw [upd_ne (ne_of_none e (fr a List.mem_cons_self))]
          exact w3.sub b o e
        obtain ⟨L4, w4, s4⟩ := fin I3 _ _ _ hst (List.nodup_cons.mpr ⟨fun h => nd'.1 (sb.subset h), nd'.2.sublist sb⟩) (fun b hb => fr b (hsub b hb)) hex how
        exact hb _ o e σ I3 _ L4 w4 Dn (PostS.later ((n2.stp.trans n3.stp).trans s4) (.refl σ) q)
    · cases e
  · cases e
/-- place: a if c else b, c a slot -/
def lIfV (c : Nat) (l m : List T → Option (Nat × Pth)) : List T → Option (Nat × Pth) := fun γ => match γ[c]? with
  | some (.d (.bl b)) => if b = true then l γ else m γ
  | _ => none
theorem lo_ifV {c : Nat} {l m : List T → Option (Nat × Pth)} (hl : Lo K ta l) (hm : Lo K tb m) : Lo K (tIf (tTest (tVar c)) ta tb) (lIfV c l m) := fun γ i p e σ I H L w Q k => by
  unfold lIfV at e
  split at e
  · rename_i b hc
    obtain ⟨v, h1, h2⟩ := w.env.getD hc
    cases h2
    refine ⟨_, h1, ?_⟩
    refine ⟨b, rfl, ?_⟩
    cases b with
    | true => exact hl γ i p e σ I H L w Q k
    | false => exact hm γ i p e σ I H L w Q k
  · cases e
end
end FD
namespace FD
open PySem PySem.Spec PyProof.Rows L2
section
variable {K : PySem.W.Frag} {ta tb tc te to td ty tx tv : TE} {tt tu : TT} {I I' H H' : Hp} {γ γ' : List T} {σ : Sg} {L : List Addr} {t : T} {v : V} {x : D} {wr : List Nat} {W : WX'} {ts t1 t2 : TS} {C : Addr} {ns : List Str}
/-- o.m(a, .., k = b, ..), o a slot -/
def eMethN (C : Addr) (ns : List Str) (g : FN) (i : Nat) (P : List (Option D)) (bs : List (Option Nat)) (a : List T → Option (List T × List T)) : List T → Option (T × List T) := fun γ => match γ[i]? with
  | some (.obj C' ns' _) => if C' = C ∧ ns' = ns then (a γ).bind fun q => if bs.length = holes P ∧ q.1.length = holes P then callF g (some i :: weave (fun _ => none) P bs) (.em :: weave (fun x => .d x) P q.1) q.2 else none else none
  | _ => none
theorem ef_methN {mm : Str} {g : FN} {i : Nat} {P : List (Option (V × D))} {bs : List (Option Nat)} {a : List T → Option (List T × List T)} {l1 l2 : List TE} {n m : Nat} {gV : List V → List V → List V} {E : XK} (hmm : mm ∉ ns) (hP : ∀ I q, some q ∈ P → Is K I q.1 q.2) (ha : EfA K (tList (l1 ++ l2)) bs a) (hn : l1.length + 1 = n) (hm : l2.length = m) (hh : l1.length + m = holes P)
    (hg : ∀ x vs zs, vs.length = l1.length → zs.length = m → gV (x :: vs) zs = x :: weave (·.1) P (vs ++ zs)) : Ef K (tMethN C mm n m (spF K g) gV E (tVar i) (tList l1) (tList l2)) (eMethN C ns g i (P.map (Option.map (·.2))) bs a) := fun γ t γ' e σ I H L w Q k => by
  unfold eMethN at e
  rw [holes_map, weave_map] at e
  split at e
  · rename_i C' ns' ts0 h0
    split at e
    · rename_i hc
      obtain ⟨rfl, rfl⟩ := hc
      obtain ⟨⟨ts, γ1⟩, e1, e⟩ := Option.bind_eq_some_iff.mp e
      split at e
      · rename_i hl
        obtain ⟨v, h1, Li, h2, _⟩ := w.stepSlot h0 (fun z => nomatch z)
        cases h2 with
        | @obj p dx fs _ _ _ L0 g0 g1 g2 g3 g4 =>
          refine ⟨_, h1, p, dx, fs, rfl, g1, lookup_no (g3 ▸ hmm), ?_⟩
          show tList l1 σ H fun vs H1 => tList l2 σ H1 fun zs H2 => _
          rw [tList_app]
          refine ha γ ts γ1 e1 σ I H L w _ fun ws I1 H1 L1 w1 s1 hb => ?_
          have hw : ws.length = holes P := hb.len.trans hl.1
          have l1' : (ws.take l1.length).length = l1.length := by simp; omega
          have l2' : (ws.drop l1.length).length = m := by simp; omega
          refine ⟨by rw [List.length_cons, l1']; exact hn, l2', ?_⟩
          rw [hg _ _ _ l1' l2', List.take_append_drop]
          rw [weave_map] at e
          exact call_ok (ts := .em :: weave (fun p => .d p.2) P ts) (vs := .ref p :: weave (·.1) P ws) (bs := some i :: weave (fun _ => none) P bs) ⟨.em _ (EnvT.weave (hP I1) hl.2 hw w1.env), w1.nd, w1.fr, w1.sub⟩ ⟨_, _, rfl, h1, hb.weave hl.1⟩ e fun u I2 H2 L2 w2 s2 => k u I2 H2 L2 w2 (s1.trans s2)
      · cases e
    · cases e
  · cases e
/-- a def's fresh list -/
theorem spF_fresh {g : FN} {xs : List D} {vs : List V} {ds : List D} {post : List T} {E : XK} (s : Ex I H) (hv : IsA K I vs xs) (e : g (xs.map .d) = some (.ret (.lst ds) post)) {Q : VK} (k : ∀ a ys I' H', New I H I' H' → Ex I' H' → H' a = some (.lst ys) → I' a = none → H a = none → IsA K I' ys ds → Q (.ref a) H') : spF K g vs H Q E :=
  ⟨_, _, I, [], e, ⟨env_ds hv, List.nodup_nil, fun a h => by simp at h, s⟩, fun v I' H' L' w' s' => by
    have e2 := w'.env
    cases e2 with
    | @cons _ _ _ _ L1 L2 h1 h2 =>
      cases h1 with
      | @lst a ys _ h3 h4 =>
        exact k a ys I' H' s'.toNew w'.sub h3 (w'.fr a (by simp)) ((s'.l a (by simp)).elim (fun z => by simp at z) id) h4⟩
def lMeth (C : Addr) (ns : List Str) (g : FN) (f : List T → Option D) (a : List T → Option (List D)) : List T → Option (List D) := fun γ => (f γ).bind fun x => match x with
  | .ins C' ns' ds => if C' = C ∧ ns' = ns then (a γ).bind fun xs => (match g (.d (.ins C' ns' ds) :: xs.map .d) with
    | some (.ret (.lst zs) _) => some zs
    | _ => none) else none
  | _ => none
theorem fu_meth {m : Str} {g : FN} {f : List T → Option D} {a : List T → Option (List D)} {tr : TA} {E : XK} (hm : m ∉ ns) (hf : Pu K to f) (ha : PuA K tr a) : Fu K (tMeth C m (spF K g) [] E to tr) (lMeth C ns g f a) := fun γ z e σ I H L w Q k => by
  unfold lMeth at e
  replace e := Option.bind_eq_some_iff.mp e
  obtain ⟨x, e1, e⟩ := e
  split at e
  · rename_i C' ns' ds
    split at e
    · rename_i hc
      obtain ⟨rfl, rfl⟩ := hc
      replace e := Option.bind_eq_some_iff.mp e
      obtain ⟨xs, e2, e⟩ := e
      split at e
      · rename_i zs post hg
        cases e
        refine hf γ _ e1 σ I H L w _ fun v I1 H1 n1 s1 hv => ?_
        cases id hv with
        | @ins p _ dx fs _ _ g1 g2 g3 =>
          refine ⟨p, dx, fs, rfl, s1 _ _ g1, lookup_no (g2 ▸ hm), ha γ xs e2 σ I1 H1 L (w.new n1 s1) _ fun vs I2 H2 n2 s2 hvs => ?_⟩
          rw [List.append_nil]
          exact spF_fresh (xs := .ins _ _ ds :: xs) s2 (.cons (hv.mono n2.i) hvs) hg fun b ys I3 H3 n s h1 h2 h3 h4 => k b ys I3 H3 ((n1.trans n2).trans n) s h1 h2 (by
            cases hb : H b with
            | none => rfl
            | some o => rw [(n1.trans n2).h _ _ hb] at h3; cases h3) h4
      · cases e
    · cases e
  · cases e
structure DunC (K : PySem.W.Frag) (C f : Addr) (m : Str) : Prop where
  s : PySem.W.findIn K (.ref C) m = some (some (.ref f))
  f : PySem.W.isFn K (.ref f) = true
def rLenOwn (C : Addr) (sp : Sp) : List V → Hp → VK → Prop := fun xs H Q => ∃ a dx fs, xs = [V.ref a] ∧ H a = some (.ins C dx fs) ∧ sp [.ref a] H (fun z H' => ∃ n : Int, z = .int n ∧ (0 ≤ n ∧ n < 2 ^ 63) ∧ Q z H') (fun _ _ _ => False)
def rInOwn (C : Addr) (sp : Sp) : R2 := fun x y H Q => ∃ a dx fs, y = V.ref a ∧ H a = some (.ins C dx fs) ∧ sp [.ref a, x] H (fun z H' => ∃ b, z = .bl b ∧ Q (.bl b) H') (fun _ _ _ => False)
end
section
variable {X : Cx} {CX : CXT} {n : Nat} {C g : Addr} {sp : Sp}
theorem call_lenOwn (hs : DunC X.K C g "__len__") (F : FnR X.prog X.w X.K X.mg X.base CX n g sp) (hr : Room (n + 1) X.A) (hx : Passes CX X (fun _ _ _ => False)) : CallR X (.builtin "len") (rLenOwn C sp) := by
  intro pins s σ H xs us Q I r h
  obtain ⟨a, dx, fs, rfl, hsl, q⟩ := h
  obtain ⟨u, rfl, ru⟩ := r.one
  cases (show u = Value.ref a from ru)
  obtain ⟨m, J, _⟩ := ins_get I.hok hsl
  obtain ⟨od, J, _⟩ := J.look
  have hr2 : Room n X.A.in1 := Room.in1 hr
  refine Calls.call_function_entry kind_len plain_len entry_len (args_len1 _) ?_
  unfold Builtin.«len»
  refine wpAny_bind (m := oneArg "len" _) (wpAny_pure ?_)
  refine wpAny_bind (m := callSpecial? (.ref a) (Str.ofString "__len__")) (PySem.W.special_fn I.kIn J hs.s (beq_iff_eq.mp hs.f) (wpAny_mono (wpAny_call (SlX.run_at (us := [.ref a]) (ws := [.ref a]) F hr2 I.env0.in1 hx I (.cons rfl .nil) q)) (fun r s' z => ?_) fun _ _ y => y))
  obtain ⟨z', H', I', rz, y, ey, hy, qz⟩ := z
  subst ey
  obtain ⟨t, e⟩ := (show ∃ t, r = Value.int y t from rz)
  cases e
  obtain ⟨h0, h1⟩ := hy
  refine wpAny_bind (wpAny_holding (wpAny_pure ?_))
  refine wpAny_bind (wpAny_letGo ?_)
  show wpAny _ _ (if y < 0 then _ else _) _ _ _
  rw [if_neg (by omega)]
  show wpAny _ _ (if y ≥ 2 ^ 63 then _ else _) _ _ _
  rw [if_neg (by omega)]
  exact wpAny_bind (wpAny_mkInt (wpAny_pure ⟨_, rfl, .int y, H', I'.tok _, ⟨_, rfl⟩, qz⟩))
theorem contains_own {pins : List (Addr × Obj)} {s : Shared} {σ : L2.St} {H : Hp} {a dx : Addr} {fs : List (Str × V)} {x : V} {v : Value} {Q : Bool → Shared → Prop} (hs : DunC X.K C g "__contains__") (F : FnR X.prog X.w X.K X.mg X.base CX n g sp) (hr : Room n X.A) (hx : Passes CX X (fun _ _ _ => False)) (I : Inv X pins σ H s) (hsl : H a = some (.ins C dx fs)) (rv : RelV x v) {R : Bool → Hp → Prop} (q : sp [.ref a, x] H (fun z H' => ∃ b, z = .bl b ∧ R b H') (fun _ _ _ => False))
    (k : ∀ b H' s', Inv X pins σ H' s' → R b H' → Q b s') : wpAny (model X.prog X.w) X.A (contains (.ref a) v) Q X.xe s := by
  obtain ⟨m, J, _⟩ := ins_get I.hok hsl
  obtain ⟨od, J, _⟩ := J.look
  unfold contains
  refine wpAny_holding (wpAny_bind (wpAny_bind (J.type.here ((PySem.W.looks_findIn I.kIn hs.s).here ?_))))
  rw [if_neg (by simp)]
  refine wpAny_bind (PySem.W.unlessNone_K I.kIn J hs.s hs.f ?_)
  refine wpAny_mono (wpAny_call (SlX.run_at (us := [.ref a, v]) (ws := [.ref a, x]) F hr I.env0 hx I (.cons rfl (.cons rv .nil)) q)) (fun r s' z => ?_) fun _ _ y => y
  obtain ⟨z', H', I', rz, b, ey, qz⟩ := z
  subst ey
  obtain rfl : r = .bool b := rz
  exact wpAny_truthy_bool (k b H' s' I' qz)
theorem op_inOwn (hs : DunC X.K C g "__contains__") (F : FnR X.prog X.w X.K X.mg X.base CX n g sp) (hr : Room n X.A) (hx : Passes CX X (fun _ _ _ => False)) : OpR X (compareOp .In) (rInOwn C sp) := by
  intro pins s σ H x y v u Q I rx ry h
  obtain ⟨a, dx, fs, rfl, hsl, q⟩ := h
  cases (show u = Value.ref a from ry)
  exact wpAny_bind (contains_own hs F hr hx I hsl rx q fun b H' s' I' z => wpAny_pure ⟨.bl b, H', I', rfl, z⟩)
end
section
variable {K : PySem.W.Frag} {C : Addr} {g : FN}
def oLenOwn (C : Addr) (g : FN) (x : D) : Option D := match x with
  | .ins C' ns ds => if C' = C then (match g [.d (.ins C' ns ds)] with
    | some (.ret (.d (.int n)) _) => if 0 ≤ n ∧ n < 2 ^ 63 then some (.int n) else none
    | _ => none) else none
  | _ => none
theorem lenOwn_t : ∀ x z, oLenOwn C g x = some z → CallT K (fun v => rLenOwn C (spF K g) [v]) x z := fun x z e I H v s hv Q q => by
  unfold oLenOwn at e
  split at e
  · rename_i C' ns ds
    split at e
    · rename_i hc
      subst hc
      split at e
      · rename_i y post hg
        split at e
        · rename_i hy
          cases e
          cases hv with
          | is hv =>
            have hv0 := hv
            cases hv with
            | @ins a _ dx fs _ _ h1 h2 h3 =>
              refine ⟨a, dx, fs, rfl, s _ _ h1, ?_⟩
              exact spF_pure (xs := [.ins C' ns ds]) s (.cons hv0 .nil) hg rfl fun u I' H' n s' hu => by
                cases hu
                exact ⟨_, rfl, hy, q _ I' H' n s' (.int _)⟩
        · cases e
      · cases e
    · cases e
  · cases e
def oInOwn (C : Addr) (g : FN) (x y : D) : Option D := match y with
  | .ins C' ns ds => if C' = C then (match g [.d (.ins C' ns ds), .d x] with
    | some (.ret (.d (.bl b)) _) => some (.bl b)
    | _ => none) else none
  | _ => none
def oNotInOwn (C : Addr) (g : FN) (x y : D) : Option D := match y with
  | .ins C' ns ds => if C' = C then (match g [.d (.ins C' ns ds), .d x] with
    | some (.ret (.d (.bl b)) _) => some (.bl (!b))
    | _ => none) else none
  | _ => none
theorem inOwn_t : ∀ x y z, oInOwn C g x y = some z → OpT K (rInOwn C (spF K g)) x y z := fun x y z e I H v w s hv hw Q q => by
  unfold oInOwn at e
  split at e
  · rename_i C' ns ds
    split at e
    · rename_i hc
      subst hc
      split at e
      · rename_i b post hg
        cases e
        obtain ⟨I1, e1, s1, hv1⟩ := hv.frz s
        cases hw with
        | is hw =>
          have hw0 := hw.mono e1
          cases hw with
          | @ins a _ dx fs _ _ h1 h2 h3 =>
            refine ⟨a, dx, fs, rfl, s _ _ h1, ?_⟩
            exact spF_pure (xs := [.ins C' ns ds, x]) s1 (.cons hw0 (.cons hv1 .nil)) hg rfl fun u I' H' n s' hu => by
              cases hu
              exact ⟨_, rfl, q _ I H' ⟨Ex.refl I, n.h, fun _ _ h => .inl h⟩ (s.trans n.h) (.bl _)⟩
      · cases e
    · cases e
  · cases e
end
end FD
namespace FD
open PySem PySem.Spec PyProof.Rows L2
section
variable {P : Program} {w : PySem.World} {A : Around} {E : Value → Shared → Prop} {κ : Type} [DecidableEq κ] {kn : PySem.KeyKind P w κ}
inductive Ents (kn : PySem.KeyKind P w κ) : List (Int × Value) → List κ → Prop
  | nil : Ents kn [] []
  | cons {e : Int × Value} {es : List (Int × Value)} {k : κ} {ks : List κ} : kn.is k e.2 = true → e.1 = kn.hash k → e.2.scannable = true → Ents kn es ks → Ents kn (e :: es) (k :: ks)
theorem Ents.elems {es : List (Int × Value)} {ks : List κ} (h : Ents kn es ks) : ElemsOf kn es := by
  induction h with
  | nil => exact fun e he => by simp at he
  | cons h1 h2 h3 _ ih => exact fun e he => (List.mem_cons.mp he).elim (fun z => by subst z; exact ⟨⟨_, h1, h2⟩, h3⟩) (ih e)
theorem Ents.len {es : List (Int × Value)} {ks : List κ} (h : Ents kn es ks) : es.length = ks.length := by
  induction h with
  | nil => rfl
  | cons _ _ _ _ ih => simp [ih]
theorem Ents.mem {es : List (Int × Value)} {ks : List κ} (h : Ents kn es ks) (k : κ) : k ∈ ks ↔ ∃ e ∈ es, kn.is k e.2 = true := by
  induction h with
  | nil => simp
  | @cons e es k0 ks h1 h2 h3 _ ih =>
    rw [List.mem_cons, ih]
    constructor
    · rintro (rfl | ⟨e', h, z⟩)
      · exact ⟨e, by simp, h1⟩
      · exact ⟨e', by simp [h], z⟩
    · rintro ⟨e', h, z⟩
      rcases List.mem_cons.mp h with rfl | h
      · exact .inl (kn.inj _ _ _ z h1)
      · exact .inr ⟨e', h, z⟩
theorem Ents.perm {es es' : List (Int × Value)} (p : es'.Perm es) : ∀ {ks : List κ}, Ents kn es ks → ∃ ks', ks'.Perm ks ∧ Ents kn es' ks' := by
  have key : ∀ {a b : List (Int × Value)}, a.Perm b → ∀ {ks : List κ}, Ents kn a ks → ∃ ks', ks'.Perm ks ∧ Ents kn b ks' := by
    intro a b p
    induction p with
    | nil => intro ks h; exact ⟨ks, List.Perm.refl _, h⟩
    | cons x _ ih =>
      intro ks h
      cases h with
      | cons h1 h2 h3 h =>
        obtain ⟨ks', p', h'⟩ := ih h
        exact ⟨_, p'.cons _, .cons h1 h2 h3 h'⟩
    | swap x y l =>
      intro ks h
      cases h with
      | cons h1 h2 h3 h =>
        cases h with
        | cons g1 g2 g3 h => exact ⟨_, List.Perm.swap _ _ _, .cons g1 g2 g3 (.cons h1 h2 h3 h)⟩
    | trans _ _ ih1 ih2 =>
      intro ks h
      obtain ⟨k1, p1, h1⟩ := ih1 h
      obtain ⟨k2, p2, h2⟩ := ih2 h1
      exact ⟨k2, p2.trans p1, h2⟩
  exact fun {ks} h => key p.symm h
theorem Ents.snoc {es : List (Int × Value)} {ks : List κ} {x : Value} {k : κ} (h : Ents kn es ks) (h1 : kn.is k x = true) (h2 : x.scannable = true) : Ents kn (es ++ [(kn.hash k, x)]) (ks ++ [k]) := by
  induction h with
  | nil => exact .cons h1 rfl h2 .nil
  | cons a b c _ ih => exact .cons a b c ih
/-- the members, in some order -/
def SetG (kn : PySem.KeyKind P w κ) (h : Heap) (a : Addr) (m : List κ) : Prop :=
  ∃ o es ep t, h.get? a = some o ∧ o.ExactSet ∧ o.data = .set es ep t ∧ (∃ l, l.Perm m ∧ Ents kn es.toList l) ∧ es.size < scanBound ∧ t.fits es.size = true ∧ Ris t.place.toList ∧ (w.params.followText "set-order" = true ∨ t.led = true)
theorem setG_keep {h h' : Heap} {a : Addr} {m : List κ} (S : SetG kn h a m) (k : ∀ o, h.get? a = some o → h'.get? a = some o) : SetG kn h' a m :=
  let ⟨o, es, ep, t, g, r⟩ := S
  ⟨o, es, ep, t, k o g, r⟩
theorem setG_fresh {h : Heap} : SetG kn (h.push { cls := .type "set", dict := none, data := .set #[] 0 (.fresh 0 0 (!w.params.followText "set-order")) }) h.objs.size [] :=
  ⟨_, #[], 0, _, Heap.get?_push_size _ rfl, ⟨rfl, rfl, rfl⟩, rfl, ⟨[], List.Perm.refl _, .nil⟩, by decide, by rfl, List.Pairwise.nil, by
    show _ ∨ (!w.params.followText "set-order") = true
    cases w.params.followText "set-order"
    · exact .inr rfl
    · exact .inl rfl⟩
variable {s : Shared} {a : Addr}
theorem setG_tail {g : Bool → Sem Unit} (hg : ∀ (b : Bool) (s₁ : Shared) (Q' : Unit → Shared → Prop), Q' () s₁ → wpAny (model P w) A (g b) Q' E s₁)
    {o : Obj} {es : Array (Int × Value)} {ep : Nat} {t : SetTable} (ho : s.heap.get? a = some o) (hex : o.ExactSet) (hd : o.data = .set es ep t)
    {es1 : Array (Int × Value)} {t2 : SetTable} {m1 l1 : List κ} (p1 : l1.Perm m1) (g1 : Ents kn es1.toList l1)
    (hb1 : es1.size < scanBound) (hf2 : t2.fits es1.size = true) (hr : Ris t2.place.toList) (hl : w.params.followText "set-order" = true ∨ t2.led = true) {was : Bool} {R : Option Bool → Shared → Prop}
    (hR : ∀ h', Heap.SameBut a s.heap h' → SetG kn h' a m1 → R (some true) { s with heap := h' }) :
    wpAny (model P w) A (do
        storeSet a es1 t2
        if (!was && t2.tooFull) = true then do
            g (relayAll t2 es1 (SetTable.grown es1.size)).2.2
            storeSet a (relayAll t2 es1 (SetTable.grown es1.size)).1 (relayAll t2 es1 (SetTable.grown es1.size)).2.1
            pure (some true)
          else pure (some true)) R E s := by
  refine wpAny_bind (wpAny_storeSet_of ho hd ?_ (fits_of_scanBound hb1))
  have ho1 := L2.store_at (es' := es1) (t' := t2) ho hd
  have sb1 := Heap.SameBut.update s.heap a (Obj.putSet es1 t2)
  split
  · have pm := relayAll_perm t2 es1 (SetTable.grown es1.size)
    have hf3 := relayAll_fits t2 es1 (SetTable.grown es1.size)
    have hr3 := relayAll_ris t2 es1 (SetTable.grown es1.size)
    have hl3 := relayAll_led t2 es1 (SetTable.grown es1.size)
    generalize relayAll t2 es1 (SetTable.grown es1.size) = Z at pm hf3 hr3 hl3 ⊢
    obtain ⟨es2, t3, gave⟩ := Z
    dsimp only at pm hf3 hr3 hl3 ⊢
    have hsz : es2.size = es1.size := by rw [← Array.length_toList, pm.length_eq, Array.length_toList]
    obtain ⟨l2, p2, g2⟩ := g1.perm pm
    refine wpAny_bind (hg _ _ _ ?_)
    refine wpAny_bind (wpAny_storeSet_of ho1 rfl ?_ (fits_of_scanBound (by rw [hsz]; exact hb1)))
    have ho2 := L2.store_at (es' := es2) (t' := t3) ho1 rfl
    refine wpAny_pure (hR _ (sb1.trans (Heap.SameBut.update _ a _)) ?_)
    exact ⟨_, es2, _, t3, ho2, hex, rfl, ⟨l2, p2.trans p1, g2⟩, by rw [hsz]; exact hb1, hf3, hr3, hl.imp id fun z => by rw [hl3]; exact z⟩
  · exact wpAny_pure (hR _ sb1 ⟨_, es1, _, t2, ho1, hex, rfl, ⟨l1, p1, g1⟩, hb1, hf2, hr, hl⟩)
theorem setG_add {m : List κ} {k : κ} {x : Value} {Q : Bool → Shared → Prop} (hkey : kn.is k x = true) (hsc : x.scannable = true) (S : SetG kn s.heap a m) (room : m.length + 1 < scanBound)
    (hQ : ∀ h' b, Heap.SameBut a s.heap h' → SetG kn h' a (if k ∈ m then m else m ++ [k]) → Q b { s with heap := h' }) :
    wpAny (model P w) A (setAddHashed a x (kn.hash k)) Q E s := by
  obtain ⟨o, es, ep, t, ho, hex, hd, ⟨l, pl, hen⟩, hb, hf, hr, hl⟩ := S
  have hel := hen.elems
  have hlen : es.size = m.length := by rw [← Array.length_toList, hen.len, pl.length_eq]
  unfold setAddHashed setAddHashedIn
  refine wpAny_holding (wpAny_bind (wpAny_setState_of ho hd hf ?_))
  dsimp only
  rw [byScan_of hsc hb hel]
  simp only [↓reduceIte]
  unfold setAddByScan
  refine wpAny_bind ?_
  refine wpAny_bind (wpAny_rule ?_)
  refine wpAny_bind (wpAny_setScan_of hkey ho hd hf hel ?_)
  cases hfi : List.findIdx? (fun e => kn.is k e.2) es.toList with
  | some j =>
    dsimp only
    obtain ⟨hj, pj, _⟩ := List.findIdx?_eq_some_iff_getElem.mp hfi
    have hm : k ∈ m := pl.mem_iff.mp ((hen.mem k).mpr ⟨es.toList[j], List.getElem_mem hj, pj⟩)
    refine wpAny_pure (wpAny_pure ?_)
    refine hQ s.heap _ (Heap.SameBut.refl a s.heap) ?_
    rw [if_pos hm]
    exact ⟨o, es, ep, t, ho, hex, hd, ⟨l, pl, hen⟩, hb, hf, hr, hl⟩
  | none =>
    dsimp only
    have hm : k ∉ m := fun z => by
      obtain ⟨e, he, q⟩ := (hen.mem k).mp (pl.mem_iff.mpr z)
      have c := List.findIdx?_eq_none_iff.mp hfi e he
      rw [q] at c
      cases c
    have hgw : ∀ (b : Bool) {s₁ : Shared} {Q' : Unit → Shared → Prop}, Q' () s₁ → wpAny (model P w) A (match b with | true => rule "set.scan.the-table-gave-way" | false => pure ()) Q' E s₁ :=
      fun b s₁ Q' q => by cases b <;> first | exact wpAny_pure q | exact wpAny_rule q
    have pm := layNew_perm t es (kn.hash k) x
    have hf1 := layNew_fits t es (kn.hash k) x
    have hr1 := layNew_ris t es (kn.hash k) x hr
    have hl1 := layNew_led t es (kn.hash k) x
    generalize layNew t es (kn.hash k) x = Z at pm hf1 hr1 hl1 ⊢
    obtain ⟨es1, t1, was, gave⟩ := Z
    dsimp only at pm hf1 hr1 hl1 ⊢
    rw [Array.toList_push] at pm
    obtain ⟨l1, p1, g1⟩ := (hen.snoc hkey hsc).perm pm
    have p2 : l1.Perm (m ++ [k]) := p1.trans (pl.append_right [k])
    have hsz : es1.size = m.length + 1 := by rw [← Array.length_toList, g1.len, p2.length_eq, List.length_append]; rfl
    have hb1 : es1.size < scanBound := by rw [hsz]; exact room
    have hled : w.params.followText "set-order" = true ∨ t1.led = true := hl.imp id fun z => by rw [hl1]; exact z
    have fin : ∀ h' b, Heap.SameBut a s.heap h' → SetG kn h' a (m ++ [k]) → Q b { s with heap := h' } := fun h' b sb r => by
      refine hQ h' b sb ?_
      rw [if_neg hm]
      exact r
    refine wpAny_bind (hgw _ ?_)
    split
    · refine wpAny_bind ?_
      rw [hashByValue_scannable 8 hsc]
      refine wpAny_pure ?_
      refine setG_tail (kn := kn) ?_ ho hex hd p2 g1 hb1 ?_ ?_ ?_ ?_
      · intro b s₁ Q' q; cases b <;> first | exact wpAny_pure q | exact wpAny_rule q
      · first | (split <;> first | exact hf1 | exact SetTable.fits_plain_off hf1) | exact hf1
      · first | (split <;> exact hr1) | exact hr1
      · first | (split <;> exact hled) | exact hled
      · intro h' sb r; dsimp only; exact wpAny_pure (fin h' _ sb r)
    · refine wpAny_bind (wpAny_pure ?_)
      simp only [↓reduceIte]
      refine setG_tail (kn := kn) ?_ ho hex hd p2 g1 hb1 hf1 hr1 hled ?_
      · intro b s₁ Q' q; cases b <;> first | exact wpAny_pure q | exact wpAny_rule q
      · intro h' sb r; dsimp only; exact wpAny_pure (fin h' _ sb r)
end
end FD
namespace FD
open PySem PySem.Spec PyProof.Rows L2
section
variable {P : Program} {w : PySem.World} {A : Around} {E : Value → Shared → Prop} {κ : Type} [DecidableEq κ] {kn : PySem.KeyKind P w κ}
theorem code_set_led1 {s : Shared} (a : Value) {Q₁ : Value → Shared → Prop}
    (h : Q₁ (.ref s.heap.objs.size) { s with heap := s.heap.push { cls := .type "set", dict := none, data := .set #[] 0 (.fresh 0 0 (!w.params.followText "set-order")) } }) :
    codeAny (model P w) A (.call (.builtin "set.__new__") ⟨[.type "set", a], []⟩) (wants Q₁ E) s := by
  refine codeAny_of_tree ?_
  show wpAny _ A.in1 (do checkBuiltinCall "set.__new__" ⟨[.type "set", a], []⟩; again (.builtin "set.__new__" ⟨[.type "set", a], []⟩)) _ _ s
  refine wpAny_bind (wpAny_of_eq (F.newCall_set_1 a) (wpAny_pure ⟨plainId_quiet F.plain_set_new _, codeAny_builtin F.entry_set_new ?_⟩))
  rw [Around.under_plainId F.plain_set_new _]
  unfold Builtin.«set.__new__» Builtin.Frozenset.newClass
  have hsub := sub_set_self
  obtain ⟨hp, g, d, tk, os⟩ := s
  dsimp only
  wp_walk
  refine wpAny_askSetting (wpAny_pure ?_)
  dsimp only
  simp only [newObj]
  refine wpAny_bind (wpAny_alloc (wpAny_pure ?_))
  exact wpAny_pure h
theorem setWalkG {R : Result → Shared → Prop} {it : Addr} {fp wr : List Addr} {G : Array GenState → Array GenState → Prop} {Pv : Nat → Value → Prop} {St : Nat → Shared → Prop} (ks : List κ) (Wk : WalksS P w A.in1 it fp wr G ks.length Pv St) {a : Addr} (ha : a ∉ fp)
    (hk : ∀ i u, Pv i u → ∃ x, ks[i]? = some x ∧ kn.is x u = true ∧ u.scannable = true) (hz : ks.length + 1 < scanBound) (d : Nat) : ∀ (i : Nat) (s : Shared), i + d = ks.length → St i s → SetG kn s.heap a (metK (ks.take i)) →
      (∀ s1, Moved (a :: wr) G s s1 → SetG kn s1.heap a (metK ks) → R (.ok (.ret .none)) s1) → codeAny (model P w) A (.builtin "set.update.loop" ⟨[.ref a, .ref it], []⟩) R s := by
  have out : a ∉ wr := fun q => ha (Wk.sub _ q)
  have wide : ∀ x ∈ wr, x ∈ a :: wr := fun x q => .tail _ q
  induction d with
  | zero =>
    intro i s hi st S k
    obtain rfl : i = ks.length := by omega
    refine codeAny_builtin F.entry_set_update_loop (by
      rw [Around.under_plainId F.plain_set_update_loop _]
      show wpAny (model P w) A.in1 (pyNext (.ref it) >>= _) _ _ s
      refine wpAny_bind (Wk.done s _ _ st fun s1 mv => ?_)
      rw [List.take_length] at S
      show wpAny (model P w) A.in1 (ret Value.none) _ _ s1
      exact wpAny_pure (k s1 (mv.mono wide) (setG_keep S fun o e => mv.heap a o out e)))
  | succ d ih =>
    intro i s hi st S k
    have lt : i < ks.length := by omega
    refine codeAny_builtin F.entry_set_update_loop ?_
    rw [Around.under_plainId F.plain_set_update_loop _]
    show wpAny (model P w) A.in1 (pyNext (.ref it) >>= _) _ _ s
    refine wpAny_bind (Wk.item i s _ _ lt st fun u s1 pu st1 mv => ?_)
    obtain ⟨x, hx, isx, sc⟩ := hk i u pu
    have S1 : SetG kn s1.heap a (metK (ks.take i)) := setG_keep S fun o e => mv.heap a o out e
    show wpAny (model P w) A.in1 (holding [u] (setAdd a u) >>= _) _ _ s1
    refine wpAny_bind (wpAny_holding (by
      unfold setAdd
      refine wpAny_holding (wpAny_bind (kn.pyHash (k := x) isx ?_))
      have room : (metK (ks.take i)).length + 1 < scanBound := by
        have := metK_len (ks.take i)
        rw [List.length_take] at this
        omega
      refine setG_add (s := { s1 with toks := s1.toks + 1 }) isx sc S1 room fun h2 b but S2 => ?_
      rw [← metK_snoc, show ks.take i ++ [x] = ks.take (i + 1) from by rw [List.take_add_one, hx]; rfl] at S2
      refine wpAny_pure ⟨plainId_quiet F.plain_set_update_loop _, ih (i + 1) _ (by omega) (Wk.frame _ s1 _ _ st1 (Nat.le_succ _) fun b hb o e => ?_) S2 fun s3 mv3 S4 => ?_⟩
      · rw [but.2 b fun q => ha (q ▸ hb)]; exact e
      · exact k s3 (Moved.trans Wk.gtrans ((mv.mono wide).then_heap (Nat.le_succ _) fun b o hb e => by rw [but.2 b fun q => hb (q ▸ List.mem_cons_self)]; exact e) mv3) S4))
end
set_option maxHeartbeats 3200000 in
theorem callSetGT {P : Program} {w : PySem.World} {A : Around} {E : Value → Shared → Prop} {s : Shared} {κ : Type} [DecidableEq κ] {kn : PySem.KeyKind P w κ} {l : Addr} {its : Array Value} (ks : List κ) {Q : Value → Shared → Prop} (cool : A.handled = none) (src : s.heap.IsTuple l its)
    (hk : ∀ (i : Nat) (u : Value), its[i]? = some u → ∃ x, ks[i]? = some x ∧ kn.is x u = true ∧ u.scannable = true) (hlen : its.size = ks.length) (hz : ks.length + 1 < scanBound)
    (go : ∀ h2 tk, SetG kn h2 s.heap.objs.size (metK ks) → (∀ b o, s.heap.get? b = some o → h2.get? b = some o) → Q (.ref s.heap.objs.size) { s with heap := h2, toks := tk }) : wpAny (model P w) A (call (.type "set") [.ref l]) Q E s := by
  obtain ⟨mc, mt, hm1⟩ := F.called_set.mro
  have hm2 := F.called_set.made
  have hm3 := F.called_set.sub
  refine wpAny_call (codeAny_of_tree (by
    show wpAny _ _ (callAny (.type "set") _) _ _ _
    refine wpAny_pure ⟨Code.quiet_builtin _ (by decide +kernel), codeAny_builtin F.entry_type_call ?_⟩
    rw [Around.under_plain (weight_type_call_type "set" [.ref l] []) rfl]
    have n1 := F.called_set.notType
    have n2 := F.called_set.canCreate
    have n3 := F.typeCall_set_1 (.ref l)
    repeat (any_goals (first | assumption | wp_step))
    let nb : Obj := { cls := .type "set", dict := none, data := .set #[] 0 (.fresh 0 0 (!w.params.followText "set-order")) }
    refine codeAny_mono (code_set_led1 (.ref l) (E := E) (Q₁ := fun u s1 => u = .ref s.heap.objs.size ∧ s1 = { s with heap := s.heap.push nb }) ⟨rfl, rfl⟩) fun r s1 hr => ?_
    cases r with
    | error e => exact hr
    | ok fl =>
      cases fl with
      | ret u =>
        obtain ⟨rfl, rfl⟩ := hr
        have at1 : (s.heap.push nb).get? s.heap.objs.size = some nb := Heap.get?_push_size _ rfl
        have ty1 : Shared.TypeIs { s with heap := s.heap.push nb } (.ref s.heap.objs.size) "set" := ⟨_, at1, rfl⟩
        have i1 := F.called_set.init.lookup
        have i2 := F.called_set.init.bind (.ref s.heap.objs.size)
        repeat (any_goals (first | assumption | wp_step))
        refine codeAny_mono (codeAny_call_builtin (R := wants (fun r s2 => r = .none ∧ ∃ h2 tk, s2 = { s with heap := h2, toks := tk } ∧ SetG kn h2 s.heap.objs.size (metK ks) ∧ ∀ b o, s.heap.get? b = some o → h2.get? b = some o) E) F.called_set.init.plain F.entry_set_init (check_set_init_1 ty1 ?_)) fun r2 s2 hr2 => ?_
        · obtain ⟨ol, hol, hcl, nl, hdl⟩ := src
          obtain ⟨ocls, odict, odata, oslots⟩ := ol
          simp only at hcl hdl
          subst hcl hdl
          have old : (s.heap.push nb).get? l = some { cls := .type "tuple", dict := odict, data := .seq its nl, slots := oslots } := Heap.get?_push_of_some _ hol
          have b1 := F.sub_tuple_set
          have b2 := F.sub_tuple_frozenset
          have b3 : (Value.type "tuple" == Value.type "dict") = false := by decide
          have src1 : (s.heap.push nb).IsTuple l its := ⟨_, old, rfl, nl, rfl⟩
          unfold Builtin.«set.__init__» noKeywords Builtin.Frozenset.updateFrom
          generalize hPI : pyIter = PI
          wp_walk
          subst hPI
          refine wpAny_pyIter_tuple src1 (wpAny_bind (wpAny_runValue ?_))
          have small : l < s.heap.objs.size := Heap.lt_size hol
          have cool3 : A.in1.in1.in1.handled = none := by simp [cool]
          have ne1 : l ≠ (s.heap.push nb).objs.size := by rw [Heap.size_push]; exact Nat.ne_of_lt (Nat.lt_succ_of_lt small)
          have out1 : s.heap.objs.size ∉ [(s.heap.push nb).objs.size, l] := by
            rw [Heap.size_push]
            simp only [List.mem_cons, List.not_mem_nil, or_false, not_or]
            exact ⟨Nat.ne_of_lt (Nat.lt_succ_self _), Nat.ne_of_gt small⟩
          have Wk := (Walks.tuple (prog := P) (w := w) cool3 (s.heap.push nb).objs.size l ne1 its).toS
          rw [hlen] at Wk
          refine setWalkG (kn := kn) ks Wk out1 hk hz ks.length 0 _ (Nat.zero_add _) ⟨⟨_, Heap.get?_push_size _ rfl, rfl, rfl⟩, src1.push _⟩ ?_ fun s3 mv S3 => ?_
          · exact setG_keep (setG_fresh (kn := kn) (h := s.heap)) fun u e => Heap.get?_push_of_some _ e
          · obtain ⟨h3, g3, d3, tk3, os3⟩ := s3
            obtain rfl : g3 = s.gens := mv.gens
            obtain rfl : d3 = s.drawn := mv.drawn
            obtain rfl : os3 = s.os := mv.os
            refine wpAny_pure (show wpAny _ _ (ret Value.none) _ _ _ from wpAny_pure ⟨rfl, h3, tk3, rfl, S3, fun b o e => ?_⟩)
            have lb : b < s.heap.objs.size := Heap.lt_size e
            refine mv.heap b o (fun q => ?_) (Heap.get?_push_of_some _ (Heap.get?_push_of_some _ e))
            simp only [Heap.size_push, List.mem_cons, List.not_mem_nil, or_false] at q
            exact q.elim (Nat.ne_of_lt lb) (Nat.ne_of_lt (Nat.lt_succ_of_lt lb))
        · cases r2 with
          | error e => exact hr2
          | ok fl2 =>
            cases fl2 with
            | ret z =>
              obtain ⟨rfl, h2, tk, rfl, S2, kp⟩ := hr2
              repeat (any_goals (first | assumption | wp_step))
              exact go _ _ S2 kp
            | _ => exact hr2.elim
      | _ => exact hr.elim))
set_option maxHeartbeats 3200000 in
theorem callSetGL {P : Program} {w : PySem.World} {A : Around} {E : Value → Shared → Prop} {s : Shared} {κ : Type} [DecidableEq κ] {kn : PySem.KeyKind P w κ} {l : Addr} {its : Array Value} (ks : List κ) {Q : Value → Shared → Prop} (cool : A.handled = none) (src : s.heap.IsList l its)
    (hk : ∀ (i : Nat) (u : Value), its[i]? = some u → ∃ x, ks[i]? = some x ∧ kn.is x u = true ∧ u.scannable = true) (hlen : its.size = ks.length) (hz : ks.length + 1 < scanBound)
    (go : ∀ h2 tk, SetG kn h2 s.heap.objs.size (metK ks) → (∀ b o, s.heap.get? b = some o → h2.get? b = some o) → Q (.ref s.heap.objs.size) { s with heap := h2, toks := tk }) : wpAny (model P w) A (call (.type "set") [.ref l]) Q E s := by
  obtain ⟨mc, mt, hm1⟩ := F.called_set.mro
  have hm2 := F.called_set.made
  have hm3 := F.called_set.sub
  refine wpAny_call (codeAny_of_tree (by
    show wpAny _ _ (callAny (.type "set") _) _ _ _
    refine wpAny_pure ⟨Code.quiet_builtin _ (by decide +kernel), codeAny_builtin F.entry_type_call ?_⟩
    rw [Around.under_plain (weight_type_call_type "set" [.ref l] []) rfl]
    have n1 := F.called_set.notType
    have n2 := F.called_set.canCreate
    have n3 := F.typeCall_set_1 (.ref l)
    repeat (any_goals (first | assumption | wp_step))
    let nb : Obj := { cls := .type "set", dict := none, data := .set #[] 0 (.fresh 0 0 (!w.params.followText "set-order")) }
    refine codeAny_mono (code_set_led1 (.ref l) (E := E) (Q₁ := fun u s1 => u = .ref s.heap.objs.size ∧ s1 = { s with heap := s.heap.push nb }) ⟨rfl, rfl⟩) fun r s1 hr => ?_
    cases r with
    | error e => exact hr
    | ok fl =>
      cases fl with
      | ret u =>
        obtain ⟨rfl, rfl⟩ := hr
        have at1 : (s.heap.push nb).get? s.heap.objs.size = some nb := Heap.get?_push_size _ rfl
        have ty1 : Shared.TypeIs { s with heap := s.heap.push nb } (.ref s.heap.objs.size) "set" := ⟨_, at1, rfl⟩
        have i1 := F.called_set.init.lookup
        have i2 := F.called_set.init.bind (.ref s.heap.objs.size)
        repeat (any_goals (first | assumption | wp_step))
        refine codeAny_mono (codeAny_call_builtin (R := wants (fun r s2 => r = .none ∧ ∃ h2 tk, s2 = { s with heap := h2, toks := tk } ∧ SetG kn h2 s.heap.objs.size (metK ks) ∧ ∀ b o, s.heap.get? b = some o → h2.get? b = some o) E) F.called_set.init.plain F.entry_set_init (check_set_init_1 ty1 ?_)) fun r2 s2 hr2 => ?_
        · obtain ⟨ol, hol, hcl, nl, hdl⟩ := src
          obtain ⟨ocls, odict, odata, oslots⟩ := ol
          simp only at hcl hdl
          subst hcl hdl
          have old : (s.heap.push nb).get? l = some { cls := .type "list", dict := odict, data := .seq its nl, slots := oslots } := Heap.get?_push_of_some _ hol
          have b1 := F.sub_list_set
          have b2 := F.sub_list_frozenset
          have b3 : (Value.type "list" == Value.type "dict") = false := by decide
          have src1 : (s.heap.push nb).IsList l its := ⟨_, old, rfl, nl, rfl⟩
          unfold Builtin.«set.__init__» noKeywords Builtin.Frozenset.updateFrom
          generalize hPI : pyIter = PI
          wp_walk
          subst hPI
          refine wpAny_pyIter_list src1 (wpAny_bind (wpAny_runValue ?_))
          have small : l < s.heap.objs.size := Heap.lt_size hol
          have cool3 : A.in1.in1.in1.handled = none := by simp [cool]
          have ne1 : l ≠ (s.heap.push nb).objs.size := by rw [Heap.size_push]; exact Nat.ne_of_lt (Nat.lt_succ_of_lt small)
          have out1 : s.heap.objs.size ∉ [(s.heap.push nb).objs.size, l] := by
            rw [Heap.size_push]
            simp only [List.mem_cons, List.not_mem_nil, or_false, not_or]
            exact ⟨Nat.ne_of_lt (Nat.lt_succ_self _), Nat.ne_of_gt small⟩
          have Wk := (Walks.list (prog := P) (w := w) cool3 (s.heap.push nb).objs.size l ne1 its).toS
          rw [hlen] at Wk
          refine setWalkG (kn := kn) ks Wk out1 hk hz ks.length 0 _ (Nat.zero_add _) ⟨⟨_, Heap.get?_push_size _ rfl, rfl, rfl⟩, src1.push _⟩ ?_ fun s3 mv S3 => ?_
          · exact setG_keep (setG_fresh (kn := kn) (h := s.heap)) fun u e => Heap.get?_push_of_some _ e
          · obtain ⟨h3, g3, d3, tk3, os3⟩ := s3
            obtain rfl : g3 = s.gens := mv.gens
            obtain rfl : d3 = s.drawn := mv.drawn
            obtain rfl : os3 = s.os := mv.os
            refine wpAny_pure (show wpAny _ _ (ret Value.none) _ _ _ from wpAny_pure ⟨rfl, h3, tk3, rfl, S3, fun b o e => ?_⟩)
            have lb : b < s.heap.objs.size := Heap.lt_size e
            refine mv.heap b o (fun q => ?_) (Heap.get?_push_of_some _ (Heap.get?_push_of_some _ e))
            simp only [Heap.size_push, List.mem_cons, List.not_mem_nil, or_false] at q
            exact q.elim (Nat.ne_of_lt lb) (Nat.ne_of_lt (Nat.lt_succ_of_lt lb))
        · cases r2 with
          | error e => exact hr2
          | ok fl2 =>
            cases fl2 with
            | ret z =>
              obtain ⟨rfl, h2, tk, rfl, S2, kp⟩ := hr2
              repeat (any_goals (first | assumption | wp_step))
              exact go _ _ S2 kp
            | _ => exact hr2.elim
      | _ => exact hr.elim))
end FD
namespace FD
open PySem PySem.Spec PyProof.Rows L2
theorem leD_tot2 : PySem.W.TotalLe (PySem.W.dataLe false D.py) := PySem.W.sortLe_total (PyProof.Rows.listOrd PyProof.Rows.itemOrd) false fun b => PySem.W.keyToks (D.py b)
def antiK (ks : List Key) : Prop := ∀ a ∈ ks, ∀ b ∈ ks, leD (ofK a) (ofK b) = true → leD (ofK b) (ofK a) = true → a = b
theorem sortedK_uniq : ∀ {xs ys : List Key}, antiK xs → xs.Perm ys → xs.Pairwise (fun a b => leD (ofK a) (ofK b) = true) → ys.Pairwise (fun a b => leD (ofK a) (ofK b) = true) → xs = ys
  | [], ys, _, p, _, _ => (List.nil_perm.mp p).symm
  | x :: xs, ys, an, p, h1, h2 => by
    cases ys with
    | nil => exact absurd p.symm (by simp)
    | cons y ys =>
      have hx := List.pairwise_cons.mp h1
      have hy := List.pairwise_cons.mp h2
      have m1 : x ∈ y :: ys := p.mem_iff.mp (by simp)
      have m2 : y ∈ x :: xs := p.mem_iff.mpr (by simp)
      have e : x = y := by
        rcases List.mem_cons.mp m1 with e | m1
        · exact e
        · rcases List.mem_cons.mp m2 with e | m3
          · exact e.symm
          · exact an x (by simp) y m2 (hx.1 y m3) (hy.1 x m1)
      subst e
      rw [sortedK_uniq (fun a ha b hb => an a (by simp [ha]) b (by simp [hb])) ((List.perm_cons x).mp p) hx.2 hy.2]
/-- the keys in their order -/
noncomputable def sortK (ks : List Key) : List Key := ks.mergeSort fun a b => leD (ofK a) (ofK b)
theorem sortK_perm (ks : List Key) : (sortK ks).Perm ks := List.mergeSort_perm _ _
theorem sortK_pw (ks : List Key) : (sortK ks).Pairwise (fun a b => leD (ofK a) (ofK b) = true) := List.pairwise_mergeSort (fun a b c => leD_tot2.trans (ofK a) (ofK b) (ofK c)) (fun a b => by rw [Bool.or_eq_true]; exact leD_tot2.total (ofK a) (ofK b)) ks
theorem sortK_eq {ks ls : List Key} (an : antiK ks) (p : ls.Perm ks) : sortK ls = sortK ks :=
  (sortedK_uniq (fun a ha b hb => an a ((sortK_perm ks).mem_iff.mp ha) b ((sortK_perm ks).mem_iff.mp hb)) (((sortK_perm ks).trans p.symm).trans (sortK_perm ls).symm) (sortK_pw ks) (sortK_pw ls)).symm
theorem ofK_isA {K : PySem.W.Frag} {I : Hp} : ∀ ks : List Key, IsA K I (ks.map kV) (ks.map ofK)
  | [] => .nil
  | k :: ks => .cons (ofK_is k) (ofK_isA ks)
def tSortSetK (K : PySem.W.Frag) (ta : TE) : TE := fun σ H Q => ta σ H fun x H1 => ∃ l, ∃ ks : List Key, x = V.ref l ∧ ks.length < 4000 ∧ (SqL K H1 l (ks.map kV) ∨ SqT K H1 l (ks.map kV)) ∧ antiK (metK ks) ∧ sortOk ((metK ks).map ofK) ∧
  ∀ p, H1 p = none → Q (.ref p) (upd H1 p (.lst ((sortK (metK ks)).map kV)))
section
variable {X : Cx}
theorem keyIs_rel {P : Program} {w : PySem.World} {k : Key} {u : Value} (h : (mixKind P w).is k u = true) : RelV (kV k) u := by
  rcases keyIs_shape h with ⟨i, t, rfl, rfl⟩ | ⟨x, t, rfl, rfl⟩
  · exact ⟨t, rfl⟩
  · exact ⟨t, rfl⟩
theorem ents_vals {P : Program} {w : PySem.World} {es : List (Int × Value)} {ks : List Key} (h : Ents (mixKind P w) es ks) : Vals (ks.map kV) (es.map (·.2)) := by
  induction h with
  | nil => exact .nil
  | cons h1 _ _ _ ih => exact .cons (keyIs_rel h1) ih
/-- values permuted, keys permuted -/
theorem vals_perm {us us' : List Value} (p : us'.Perm us) : ∀ {ks : List Key}, Vals (ks.map kV) us → ∃ ks' : List Key, ks'.Perm ks ∧ Vals (ks'.map kV) us' := by
  have key : ∀ {a b : List Value}, a.Perm b → ∀ {ks : List Key}, Vals (ks.map kV) a → ∃ ks' : List Key, ks'.Perm ks ∧ Vals (ks'.map kV) b := by
    intro a b p
    induction p with
    | nil => intro ks h; exact ⟨ks, List.Perm.refl _, h⟩
    | cons x _ ih =>
      intro ks h
      cases ks with
      | nil => cases h
      | cons k ks =>
        cases h with
        | cons h1 h =>
          obtain ⟨ks', p', h'⟩ := ih h
          exact ⟨k :: ks', p'.cons _, .cons h1 h'⟩
    | swap x y l =>
      intro ks h
      cases ks with
      | nil => cases h
      | cons k ks =>
        cases h with
        | cons h1 h =>
          cases ks with
          | nil => cases h
          | cons j ks =>
            cases h with
            | cons g1 h => exact ⟨j :: k :: ks, List.Perm.swap _ _ _, .cons g1 (.cons h1 h)⟩
    | trans _ _ ih1 ih2 =>
      intro ks h
      obtain ⟨k1, p1, h1⟩ := ih1 h
      obtain ⟨k2, p2, h2⟩ := ih2 h1
      exact ⟨k2, p2.trans p1, h2⟩
  exact fun {ks} h => key p.symm h
theorem vals_each : ∀ {ls : List Key} {us : List Value}, Vals (ls.map kV) us → PySem.W.EachIs (fun u (k : Key) => RelV (kV k) u) us ls
  | [], _, h => by cases h; exact .nil
  | k :: ls, _, h => by
    cases h with
    | cons h1 h => exact .cons h1 (vals_each h)
theorem each_vals : ∀ {us : List Value} {ls : List Key}, PySem.W.EachIs (fun u (k : Key) => RelV (kV k) u) us ls → Vals (ls.map kV) us
  | _, _, .nil => .nil
  | _, _, .cons a h => .cons a (each_vals h)
theorem each_reads {h : Heap} {a : Addr} : ∀ {us : List Value} {ls : List Key}, PySem.W.EachIs (fun u (k : Key) => RelV (kV k) u) us ls → PySem.W.EachIs (fun u (k : Key) => ∃ as, Reads h u (ofK k).py as ∧ a ∉ as) us ls
  | _, _, .nil => .nil
  | u :: _, k :: _, .cons r h => .cons (match k, r with
    | .inl i, r => by obtain ⟨t, rfl⟩ := r; exact ⟨[], Reads.int _ _, by simp⟩
    | .inr x, r => by obtain ⟨t, rfl⟩ := r; exact ⟨[], Reads.str _ _, by simp⟩) (each_reads h)
theorem pe_sortSetK {a : Expr} {ta : TE} {p p2 q pos : Pos} (hc : X.A.handled = none) (hu : X.A.units + 64 < cLine) (hg : Gl X "sorted") (hm : X.mg "sorted" = none) (hg2 : Gl X "set") (hm2 : X.mg "set" = none) (ha : PE X a ta) (na : starEach [a] X.env = (false, eval a X.env) :: starEach [] X.env := by rfl) :
    PE X (.Call (.Name "sorted" p) [.Call (.Name "set" p2) [a] [] q] [] pos) (tSortSetK X.K ta) := ⟨fun pins s0 σ H0 Q I0 h => by
  refine Call_ (ld_blt I0 hg hm boot_sorted (callWith_builtin1 (args_cons (Call_ (ld_blt I0 hg2 hm2 boot_set (callWith_type1 (args_cons (thn (ha.run pins s0 σ H0 _ I0 h) fun v s1 hh => args_nil ?_) na) na rfl))))))
  obtain ⟨x1, H1, I1, r1, l, ks, rfl, hz, hq, an, ⟨o1, o2, o3, o4, o5⟩, q1⟩ := hh
  obtain rfl : v = Value.ref l := r1
  have fin : ∀ {h2 : Heap} {tk : Nat}, SetG (mixKind X.prog X.w) h2 s1.heap.objs.size (metK ks) → (∀ b o, s1.heap.get? b = some o → h2.get? b = some o) →
      wpAny (model X.prog X.w) X.A (call (.builtin "sorted") [.ref s1.heap.objs.size]) (EP X pins σ Q) X.xe { heap := h2, gens := s1.gens, drawn := s1.drawn, toks := tk, os := s1.os } := fun {h2 tk} S kp => by
    obtain ⟨o, es, ep, t, g1, g2, g3, ⟨l0, pl, hen⟩, g5, g6, g7, g8⟩ := S
    have I2 : Inv X pins σ H1 { heap := h2, gens := s1.gens, drawn := s1.drawn, toks := tk, os := s1.os } := I1.kept (h' := h2) (t' := tk) kp
    refine PySem.Calls.call_function_entry kind_sorted plain_sorted entry_sorted (args_sorted1 _) ?_
    unfold Builtin.«sorted»
    refine wpAny_bind (m := checkCount "sorted" 1 1 _) (wpAny_pure ?_)
    refine wpAny_bind (L2.collect_set (A := X.A.in1) hc ⟨o, g1, g2.1, g3⟩ g6 g5 g7 g8 fun s3 its k3 hz3 e1 e2 pm => ?_)
    obtain ⟨h3, gg3, d3, tk3, os3⟩ := s3
    obtain rfl : gg3 = s1.gens := e1
    obtain rfl : os3 = s1.os := e2
    obtain ⟨ls, pls, rel⟩ := vals_perm pm (ents_vals hen)
    have pm2 : ls.Perm (metK ks) := pls.trans pl
    have hlen : its.length = ls.length := by rw [← rel.length, List.length_map]
    have hml := metK_len ks
    have hlz : its.length ≤ sizeLine := by rw [hlen, pm2.length_eq, sizeLine_eq]; omega
    have I3 : Inv X pins σ H1 { heap := h3, gens := s1.gens, drawn := d3, toks := tk3, os := s1.os } :=
      I2.call' (s' := { heap := h3, gens := s1.gens, drawn := d3, toks := tk3, os := s1.os }) (ch := []) rfl (Un.kept k3) (I2.hok.kept k3) I2.bare (fun _ z => nomatch z)
    refine wpAny_bind (wpAny_newList ?_ hlz)
    have hob : (h3.push { cls := .type "list", data := .seq its.toArray }).get? h3.objs.size = some (seqObj "list" its.toArray 0) := Heap.get?_push_size _ rfl
    have ka : ∀ b o, h3.get? b = some o → (h3.push { cls := .type "list", data := .seq its.toArray }).get? b = some o := fun b o e => Heap.get?_push_of_some _ e
    have ne0 : ∀ b o, h3.get? b = some o → b ≠ h3.objs.size := fun b o e => Nat.ne_of_lt (Heap.lt_size e)
    have dead : h3.get? h3.objs.size = none := by
      cases e : h3.get? h3.objs.size with
      | none => rfl
      | some o => exact absurd rfl (ne0 _ _ e)
    generalize hh2 : h3.push { cls := .type "list", data := .seq its.toArray } = h4 at hob ka ⊢
    have e1 := vals_each rel
    have er := each_reads (h := h4) (a := h3.objs.size) e1
    have mem : ∀ k ∈ ls, ofK k ∈ (metK ks).map ofK := fun k hk => List.mem_map.mpr ⟨k, pm2.mem_iff.mp hk, rfl⟩
    have mem2 : ∀ d ∈ ls.map (fun k : Key => (ofK k).py), d ∈ ((metK ks).map ofK).map D.py := fun d hd => by
      obtain ⟨k, hk, rfl⟩ := List.mem_map.mp hd
      exact List.mem_map.mpr ⟨_, mem k hk, rfl⟩
    have kF : ∀ b o, b ≠ h3.objs.size → h4.get? b = some o → ∀ out : List Value, (sortedHeap h4 h3.objs.size its (List.toArray out)).get? b = some o := fun b o hb e out => (PyProof.Rows.sortedHeap_old hb (Heap.lt_size e)).trans e
    refine wpAny_bind (wpAny_holding (wpAny_mono (PySem.W.list_sort_data (s := { heap := h4, gens := s1.gens, drawn := d3, toks := tk3, os := s1.os }) (enc := fun k : Key => (ofK k).py) (Q := fun _ s' => EP X pins σ Q (.ref h3.objs.size) s') hob e1 er ?_ ?_ ?_ (fun k hk => ?_) fun out w1 w2 => ?_) (fun _ s' x => ?_) fun _ _ e => e))
    · exact fun d hd d' hd' => o2 d (mem2 d hd) d' (mem2 d' hd')
    · rcases o3 with o3 | o3
      · exact .inl fun d hd => o3 d (mem2 d hd)
      · exact .inr fun d hd => o3 d (mem2 d hd)
    · rw [← hlen]; exact hlz
    · have := o4 _ (mem k hk)
      show X.A.units + 1 + 1 + _ < cLine
      omega
    · have hn0 : H1 h3.objs.size = none := I3.hok.fresh (Nat.le_refl _)
      have kS : ∀ b o, h3.get? b = some o → (sortedHeap h4 h3.objs.size its (List.toArray out)).get? b = some o := fun b o e => kF b o (ne0 _ _ e) (ka b o e) out
      obtain ⟨eF, heF⟩ := PyProof.Rows.sortedHeap_at (vs := its) (out := List.toArray out) hob
      have I4 : Inv X pins σ H1 { heap := sortedHeap h4 h3.objs.size its (List.toArray out), gens := s1.gens, drawn := d3, toks := tk3, os := s1.os } := I3.kept (t' := tk3) kS
      have rv : Vals ((sortK ls).map kV) (List.toArray out).toList := by
        rw [List.toList_toArray]
        exact each_vals w2
      have hlp : ((sortK ls).map kV).length ≤ sizeLine := by
        rw [List.length_map, (sortK_perm ls).length_eq, ← hlen]
        exact hlz
      have I5 : Inv X pins σ (upd H1 h3.objs.size (.lst ((sortK ls).map kV))) { heap := sortedHeap h4 h3.objs.size its (List.toArray out), gens := s1.gens, drawn := d3, toks := tk3, os := s1.os } := I4.take (h' := sortedHeap h4 h3.objs.size its (List.toArray out)) (t' := tk3) (fun b ob _ e => e) (I3.fpOk (Nat.le_refl _) hn0) ⟨hlp, (List.toArray out).toList, eF, rv, heF⟩
      have hs : sortK ls = sortK (metK ks) := sortK_eq an pm2
      refine ⟨.ref h3.objs.size, _, I5, rfl, ?_⟩
      rw [hs]
      exact q1 _ hn0
    · exact wpAny_pure ⟨_, rfl, x⟩
  rcases hq with hq | hq
  · obtain ⟨its, r, pl, _⟩ := I1.list hq
    obtain ⟨hl, hk⟩ := keys_at (P := X.prog) (w := X.w) r
    exact callSetGL (kn := mixKind X.prog X.w) ks hc pl.isList hk (by simpa using hl) (by simp [scanBound]; omega) fun h2 tk S kp => args_nil (fin S kp)
  · obtain ⟨its, r, pl, _⟩ := I1.tuple hq
    obtain ⟨hl, hk⟩ := keys_at (P := X.prog) (w := X.w) r
    exact callSetGT (kn := mixKind X.prog X.w) ks hc pl hk (by simpa using hl) (by simp [scanBound]; omega) fun h2 tk S kp => args_nil (fin S kp)⟩
end
end FD
namespace FD
open PySem PySem.Spec PyProof.Rows L2
section
variable {K : PySem.W.Frag} {te ta : TE}
def lPu (f : List T → Option (List D)) : List T → Option D := fun γ => (f γ).map .lst
noncomputable def oSortSet (x : D) : Option (List D) := (items x).bind fun ds => (allK ds).bind fun ks => open Classical in if ks.length < 4000 ∧ antiK (metK ks) ∧ sortOk ((metK ks).map ofK) then some ((sortK (metK ks)).map ofK) else none
noncomputable def lSortSet (f : List T → Option D) : List T → Option (List D) := fun γ => (f γ).bind oSortSet
theorem fu_sortSet {f : List T → Option D} (hf : Cu K te f) : Fu K (tSortSetK K te) (lSortSet f) := fun γ z e σ I H L w Q k => by
  obtain ⟨x, e1, e⟩ := Option.bind_eq_some_iff.mp e
  obtain ⟨ds, e2, e⟩ := Option.bind_eq_some_iff.mp e
  obtain ⟨ks, e3, e⟩ := Option.bind_eq_some_iff.mp e
  split at e
  · rename_i hz
    cases e
    obtain ⟨hz, an, so⟩ := hz
    refine hf γ x e1 σ I H L w _ fun v I1 H1 n1 s1 hv => ?_
    have key : ∀ a, v = .ref a → (SqL K H1 a (ks.map kV) ∨ SqT K H1 a (ks.map kV)) → ∃ l, ∃ ks' : List Key, v = V.ref l ∧ ks'.length < 4000 ∧ (SqL K H1 l (ks'.map kV) ∨ SqT K H1 l (ks'.map kV)) ∧ antiK (metK ks') ∧ sortOk ((metK ks').map ofK) ∧ ∀ p, H1 p = none → Q (.ref p) (upd H1 p (.lst ((sortK (metK ks')).map kV))) := fun a ea hq => by
      refine ⟨a, ks, ea, hz, hq, an, so, fun p hp => ?_⟩
      have hI : I1 p = none := s1.back hp
      refine k p _ I1 _ ⟨n1.i, fun b o hb => ?_, n1.n⟩ (fun b o hb => ?_) upd_same hI ?_ (ofK_isA _)
      · have := n1.h b o hb
        rw [upd_ne (ne_of_none this hp)]; exact this
      · rw [upd_ne (ne_of_none (s1 b o hb) hp)]; exact s1 b o hb
      · cases hH : H p with
        | none => rfl
        | some o => rw [n1.h _ _ hH] at hp; cases hp
    unfold items at e2
    split at e2
    · cases e2
      obtain ⟨a, xs, rfl, h1, h2⟩ := hv.l s1
      have := allK_is e3 h2
      subst this
      exact key a rfl (.inl h1)
    · cases e2
      obtain ⟨a, xs, rfl, h1, h2⟩ := hv.t s1
      have := allK_is e3 h2
      subst this
      exact key a rfl (.inr h1)
    · cases e2
  · cases e
end
end FD
namespace FD
open PySem PySem.Spec PyProof.Rows L2
section
variable {X : Cx} {e f : Expr} {es : List Expr} {te tf : TE} {ta : TA} {g : TG} {t u : TS} {st : Stmt} {rest : List Stmt} {pos : Pos}
def PEG (X : Cx) (e : Expr) (t : TE) : Prop :=
  ∀ (pins : List (Addr × Obj)) (s : Shared) (σ : L2.St) (H : Hp) (Q : VK), Inv X pins σ H s → t σ H Q → wpAny (model X.prog X.w) X.A (eval e X.env) (fun v s' => 1 ≤ s'.toks ∧ EP X pins σ Q v s') X.xe s
def PAG (X : Cx) (es : List Expr) (t : TA) : Prop :=
  ∀ (pos : Pos) (pins : List (Addr × Obj)) (s : Shared) (σ : L2.St) (H : Hp) (Q : List V → Hp → Prop), Inv X pins σ H s → t σ H Q → wpAny (model X.prog X.w) X.A (spliced (backTo pos (starEach es X.env))) (fun us s' => 1 ≤ s'.toks ∧ AP X pins σ Q us s') X.xe s
def PSG (X : Cx) (st : Stmt) (t : TS) : Prop :=
  ∀ (pins : List (Addr × Obj)) (s : Shared) (σ : L2.St) (H : Hp) (D : Ends), Inv X pins σ H s → t D σ H → wpAny (model X.prog X.w) X.A (exec st X.env) (fun v s' => 1 ≤ s'.toks ∧ SP X pins D v s') X.xe s
/-- e op a written text -/
theorem peg_opC {op : Operator} {r : R2} {c : Str} {j : Nat} {cpos : Pos} (ho : OpR X (binaryOp op) r) (ha : PE X e te) : PEG X (.BinOp e op (.Constant (.str c) j cpos) pos) (tOp r te (tC (.str c))) := by
  intro pins s σ H Q I h
  refine wpAny_BinOp (thn (ha.run pins s σ H _ I h) fun v s1 ⟨x, H1, I1, r1, q1⟩ => ?_)
  refine Calls.Constant_str ?_
  refine wpAny_mono (PySem.wpAny_toks (ho pins { s1 with toks := s1.toks + 1 } σ H1 x (.str c) v (.str c s1.toks) Q (I1.tok _) r1 ⟨_, rfl⟩ q1)) (fun v2 s2 z => ?_) fun _ _ z => z.2
  exact ⟨Nat.le_trans (Nat.le_add_left 1 s1.toks) z.1, z.2⟩
theorem pag_cons (ha : PEG X e te) (hr : PAT X es ta) (hs : starEach (e :: es) X.env = (false, eval e X.env) :: starEach es X.env := by rfl) : PAG X (e :: es) (tCons te ta) := by
  intro pos pins s σ H Q I h
  rw [hs]
  show wpAny _ _ (spliced ((false, eval e X.env) :: backTo pos (starEach es X.env))) _ _ s
  refine Calls.spliced_cons (thn (ha pins s σ H _ I h) fun v s1 ⟨hk, x, H1, I1, r1, q1⟩ => ?_)
  refine wpAny_mono (PySem.wpAny_toks (hr pos pins s1 σ H1 _ hk I1 q1)) (fun us s2 z => ?_) fun _ _ z => z.2
  obtain ⟨hk2, xs, H2, I2, r2, q2⟩ := z
  exact ⟨Nat.le_trans hk hk2, x :: xs, H2, I2, .cons r1 r2, q2⟩
theorem peg_lst (h : PAG X es ta) : PEG X (.List es pos) (tLst ta) := by
  intro pins s σ H Q I hq
  refine wpAny_List_spliced (thn (h pos pins s σ H _ I hq) fun us s1 ⟨hk, xs, H1, I1, r, z, q⟩ => ⟨by rw [← r.length]; exact z, ?_⟩)
  have hf : H1 s1.heap.objs.size = none := I1.hok.fresh (Nat.le_refl _)
  refine ⟨hk, .ref s1.heap.objs.size, upd H1 s1.heap.objs.size (.lst xs), I1.laid (t' := s1.toks) (fun b u e => Heap.get?_push_of_some _ e) (Nat.le_refl _) ?_, rfl, q _ hf⟩
  exact ⟨z, us, 0, r, Heap.get?_push_size _ rfl⟩
theorem psg_asg {tg : Expr} (he : PEG X e te) (hg : PG X tg g) (hs : swapsWithSole [tg] e pos.line X.env = pure false := by rfl) (hw : swappedStores [tg] e X.env = pure none := by rfl)
    (h1 : (assignEach [tg] X.env).map (·.2) = [assign tg X.env] := by rfl) : PSG X (.Assign [tg] e pos) (tAsg te g) := by
  intro pins s σ H D I h
  refine wpAny_Assign_stores (thn (he pins s σ H _ I h) fun v s1 ⟨hk, x, H1, I1, r1, q1⟩ => ?_) hs hw
  rw [h1]
  exact wpAny_mono (PySem.wpAny_toks (hg.run pins s1 σ H1 x v _ I1 r1 q1)) (fun _ s2 q => ⟨Nat.le_trans hk q.1, q.2⟩) fun _ _ z => z.2
theorem pss_consG (h1 : PSG X st t) (h2 : PSsT X rest u) : PSs X (st :: rest) (tSeq t u) := by
  refine ⟨fun pins s σ H D I h => ?_⟩
  refine wpAny_execs_cons (thn (h1 pins s σ H { D with nx := u D } I h) fun f s1 q => ?_)
  obtain ⟨hk, q⟩ := q
  cases f with
  | next =>
    obtain ⟨σ', H', I', q⟩ := q
    exact h2 pins s1 σ' H' D hk I' q
  | ret v => exact q
  | brk => exact q
  | cont => exact q
end
section
variable {K : PySem.W.Frag} {te : TE}
def pRepl (f : List T → Option D) (y z : Str) : List T → Option D := fun γ => (f γ).bind fun v => match v with
  | .str x => if x.length + (x.length + 1) * z.length ≤ 16777216 then some (.str (Txt.replace x y z)) else none
  | _ => none
theorem pu_repl {f : List T → Option D} {y z : Str} (hf : Pu K te f) : Pu K (CwR.tReplC te y z) (pRepl f y z) := fun γ d e σ I H L w Q k => by
  unfold pRepl at e
  obtain ⟨v, e1, e⟩ := Option.bind_eq_some_iff.mp e
  split at e
  · rename_i x
    split at e
    · rename_i hb
      cases e
      refine hf γ _ e1 σ I H L w _ fun u I1 H1 n1 s1 hu => ?_
      cases hu
      exact ⟨x, rfl, hb, k _ I1 H1 n1 s1 (.str _)⟩
    · cases e
  · cases e
end
end FD
namespace FD
open PySem PySem.Spec PyProof.Rows L2
section
variable {K : PySem.W.Frag} {wr : List Nat} {W : WX'} {te : TE}
def sRevV (i : Nat) : List T → Option O := fun γ => match γ[i]? with
  | some (.lst ds) => some (.nx (γ.set i (.lst ds.reverse)))
  | _ => none
def sClrV (i : Nat) : List T → Option O := fun γ => match γ[i]? with
  | some (.lst ds) => some (.nx (γ.set i (.lst [])))
  | _ => none
theorem isA_reverse {I : Hp} {xs : List V} {ds : List D} (h : IsA K I xs ds) : IsA K I xs.reverse ds.reverse := by
  induction ds generalizing xs with
  | nil => cases h; exact .nil
  | cons d ds ih =>
    cases h with
    | cons h1 h2 =>
      rw [List.reverse_cons, List.reverse_cons]
      exact (ih h2).append (.cons h1 .nil)
theorem rs_revV {i : Nat} : RunS K wr W (tDrop (tBM0 K "list" rReverse (tVar i))) (sRevV i) := fun γ o e σ I H L w Dn q => by
  unfold sRevV at e
  split at e
  · rename_i ds hd
    cases e
    obtain ⟨v, h1, Li, h2, _⟩ := w.stepSlot hd (fun z => nomatch z)
    obtain ⟨a, xs, rfl, h6, h7, _⟩ := w.wrL (ds' := []) (xs' := []) (gAt_nil hd) h1 hd .nil
    obtain ⟨_, xs', ea, h6', h7', fin⟩ := w.wrL (ds' := ds.reverse) (xs' := xs.reverse) (gAt_nil hd) h1 hd .nil
    cases ea
    rw [h6] at h6'
    cases h6'
    obtain ⟨L3, w4, s4⟩ := fin (isA_reverse h7)
    rw [gPut_nil hd] at w4
    exact ⟨_, h1, .inl ⟨rfl, _, sq_of h6⟩, a, xs, rfl, rfl, h6, q σ I _ L3 w4 s4 (.refl σ)⟩
  · cases e
end
end FD
namespace FD
open PySem PySem.Spec PyProof.Rows L2
section
variable {K : PySem.W.Frag} {ta tb tc te to td ty tx tv : TE} {tt tu : TT} {I I' H H' : Hp} {γ γ' : List T} {σ : Sg} {L : List Addr} {t : T} {v : V} {x : D} {wr : List Nat} {W : WX'} {ts t1 t2 : TS} {j k i : Nat} {p : Pth}
def oSlH (x y : D) : Option D := match y with
  | .int i => oSl x none (some i)
  | _ => none
theorem slH_t : ∀ x y z, oSlH x y = some z → OpT K (fun v w H Q => ∃ i, w = .int i ∧ rSlAny K v none (some i) H Q) x y z := fun x y z e I H v w s hv hw Q q => by
  unfold oSlH at e
  split at e
  · rename_i i
    exact ⟨i, hw.n_, sl_t _ _ _ _ e I H v s hv Q q⟩
  · cases e
theorem ef_slH {bs : List (Option Nat)} {g : List T → Option (List T × List T)} (hg : EfA K (tCons ta (tCons tb tNil)) bs g) : Ef K (tSl (rSlAny K) ta tNoPart (tPart tb)) (eOp bs oSlH g) := ef_op (r := fun v w H Q => ∃ i, w = .int i ∧ rSlAny K v none (some i) H Q) hg slH_t
def sAsgB (p : Nat × Pth) (k : Nat) (f : List T → Option D) (b : List T → Option O) : List T → Option O := fun γ => if k ≠ p.1 then sAsgA k f b γ else none
theorem rb_seqG {f : List T → Option D} {b : List T → Option O} (hf : ∀ γ x, f γ = some x → ∀ σ I H L, WS K γ σ I H L → Al γ σ H j i p → ∀ Q : VK, (∀ v I' H', New I H I' H' → Ex I' H' → Is K I' v x → Q v H') → te σ H Q) (hk : k ∈ wr) (kj : k ≠ j) (hb : RunA K wr W j i p ts b) : RunA K wr W j i p (tSeq (tAsg te (gName k)) ts) (sAsgB (i, p) k f b) := fun γ o e σ I H L w a Dn q => by
  unfold sAsgB at e
  split at e
  · rename_i ki
    exact ra_seqG hf hk ki kj hb γ o e σ I H L w a Dn q
  · cases e
theorem ends_ret {f : List T → Option (T × List T)} : ∀ γ o, sRet f γ = some o → ∃ r γ1, o = .rt r γ1 := fun γ o e => by
  unfold sRet at e
  cases h : f γ with
  | none => simp [h] at e
  | some q => simp [h] at e; exact ⟨_, _, e.symm⟩
/-- truth, of ints and texts too -/
def bTi (f : List T → Option D) : List T → Option Bool := fun γ => (f γ).bind fun x => match x with
  | .bl b => some b
  | .int i => some (decide (i ≠ 0))
  | .str y => if y.length ≤ sizeLine then some (decide (y.length ≠ 0)) else none
  | .lst ds => some (!ds.isEmpty)
  | .tup ds => some (!ds.isEmpty)
  | .non => some false
  | _ => none
theorem put_tri {f : List T → Option D} (hf : Cu K te f) : PuT K (tTru K te) (bTi f) := fun γ b e σ I H L w Q k => by
  unfold bTi at e
  obtain ⟨x, e1, e⟩ := Option.bind_eq_some_iff.mp e
  refine hf γ x e1 σ I H L w _ fun v I1 H1 n1 s1 hv => ?_
  have fin : ∀ b', TruV K v H1 b' → b' = b → ∃ k, TruV K v H1 k ∧ Q k H1 := fun b' h e => ⟨b', h, e ▸ (by subst e; exact k I1 H1 n1 s1)⟩
  cases x <;> first | (cases e; done) | skip
  · obtain rfl := hv.n
    exact fin false rfl (Option.some.inj e)
  · obtain rfl := hv.b
    exact fin _ rfl (Option.some.inj e)
  · rename_i i
    obtain rfl := hv.n_
    exact fin (i != 0) rfl ((by by_cases h : i = 0 <;> simp [h] : (i != 0) = decide (i ≠ 0)).trans (Option.some.inj e))
  · rename_i y
    obtain rfl := hv.s
    dsimp only at e
    split at e
    · rename_i hz
      exact fin ((y.length : Int) != 0) ⟨hz, rfl⟩ ((by by_cases h : y.length = 0 <;> simp [h] : ((y.length : Int) != 0) = decide (y.length ≠ 0)).trans (Option.some.inj e))
    · cases e
  · obtain ⟨a, xs, rfl, h1, h2⟩ := hv.l s1
    exact fin _ (.inl ⟨xs, h1, rfl⟩) ((isA_emp h2).trans (Option.some.inj e))
  · obtain ⟨a, xs, rfl, h1, h2⟩ := hv.t s1
    exact fin _ (.inr (.inl ⟨xs, h1, rfl⟩)) ((isA_emp h2).trans (Option.some.inj e))
end
theorem lookup_relabel_fc {env : Env} : ∀ {names : List (Str × NameKind)} {x : Str}, names.lookup x = some .cell ∨ names.lookup x = some .free →
    (names.map fun (n, k) => if (k == NameKind.free && env.scope.kind == .function && env.kindOf n == some .cell) then (n, NameKind.cell) else (n, k)).lookup x = some .cell ∨ (names.map fun (n, k) => if (k == NameKind.free && env.scope.kind == .function && env.kindOf n == some .cell) then (n, NameKind.cell) else (n, k)).lookup x = some .free
  | [], _, h => by simp at h
  | (n, k) :: r, x, h => by
    have ih := @lookup_relabel_fc env r x
    show List.lookup x ((if (k == NameKind.free && env.scope.kind == .function && env.kindOf n == some .cell) = true then (n, NameKind.cell) else (n, k)) :: _) = _ ∨ List.lookup x ((if (k == NameKind.free && env.scope.kind == .function && env.kindOf n == some .cell) = true then (n, NameKind.cell) else (n, k)) :: _) = _
    cases hx : x == n with
    | true =>
      simp only [List.lookup_cons, hx] at h
      by_cases hc : (k == NameKind.free && env.scope.kind == .function && env.kindOf n == some .cell) = true
      · rw [if_pos hc]; simp [List.lookup_cons, hx]
      · rw [if_neg hc]; simp only [List.lookup_cons, hx]; exact h
    | false =>
      simp only [List.lookup_cons, hx] at h
      by_cases hc : (k == NameKind.free && env.scope.kind == .function && env.kindOf n == some .cell) = true
      · rw [if_pos hc]; simp only [List.lookup_cons, hx]; exact ih h
      · rw [if_neg hc]; simp only [List.lookup_cons, hx]; exact ih h
/-- a comprehension within another one -/
theorem blkOk_nest {X : Cx} {s : Shared} {H : Hp} {scope1 scope : Scope} {cl : List (Str × Addr)} {C : Addr} {fp : List Addr} {N : List Str} {own : List (Str × Nat)} (hN : X.N = N) (h : blkC N scope1 scope own = true) : BlkOk (X.blk s H scope1 (compEnvC scope1 cl C X.env) fp).N (X.blk s H scope1 (compEnvC scope1 cl C X.env) fp).env.scope scope own := by
  subst hN
  have b := blkOk_by h
  exact ⟨b.kind, b.uniq, b.ix, fun y hy e => lookup_relabel_fc (b.free y hy e), b.own⟩
end FD
namespace G01
open PySem PySem.Spec PyProof.Rows L2 FD
def b_law_bag (cl : Nat → Addr) : List T → Option O :=
  (sSeq (sAsgD 2 (eP (pIf (pTest (pOp oLt (pVar 1) (pUn oLen (pVar 0)))) (pOp oIx (pVar 0) (pVar 1)) (pC (.int 0)))))
  (sSeq (sAsgD 3 (eP (pOp oAdd (pOp oMul (pC (.int 7129)) (pVar 1)) (pC (.int 613)))))
  (sSeq (sFor (iP (iEn (pSl oSl (pVar 0) oNone (oSome (pC (.int 40)))))) (gTp 2 (gCn (gN 4) (gCn (gN 5) gNl)))
  (sAsgD 3 (eP (pOp oMod (pUn oInt (pOp oAdd (pOp oAdd (pOp oAdd (pOp oMul (pVar 3) (pC (.int 50021))) (pOp oMod (pUn oInt (pVar 5)) (pC (.int 2147483563)))) (pOp oMul (pC (.int 37)) (pVar 4))) (pC (.int 5)))) (pC (.int 2147483563))))))
  (sRet (eLst [none, none] (aCons (eP (pIf (pTest (pOp oGe (pUn oAbs (pVar 2)) (pOp oPow (pC (.int 10)) (pC (.int 18))))) (pUn oAbs (pVar 2)) (pC (.int 0)))) (aCons (eP (pVar 3)) aNil)))))))
def f_law_bag (cl : Nat → Addr) : FN := fnF 2 6 [2, 3, 4, 5] (b_law_bag cl)
def b_law_take (cl : Nat → Addr) : List T → Option O :=
  (sSeq (sIf (eT (pTest (pOp oGt (pOp oIx (cVar 0) (pC (.int 0))) (pC (.int 0)))))
  (sSeq (sAsgD 2 (eP (pOp oMod (pUn oInt (pOp oIx (cVar 0) (pC (.int 0)))) (pVar 1))))
  (sSeq (sSetI 0 (eP (pOp oDiv (pOp oIx (cVar 0) (pC (.int 0))) (pVar 1))) (pC (.int 0)))
  (sRet (eP (pVar 2)))))
  sNext)
  (sSeq (sSetI 0 (eP (pOp oMod (pUn oInt (pOp oAdd (pOp oMul (pOp oIx (cVar 0) (pC (.int 1))) (pC (.int 40014))) (pC (.int 7919)))) (pC (.int 2147483563)))) (pC (.int 1)))
  (sRet (eP (pOp oMod (pOp oDiv (pOp oMod (pUn oInt (pOp oMul (pOp oDiv (pOp oIx (cVar 0) (pC (.int 1))) (pC (.int 7))) (pC (.int 40692)))) (pC (.int 2147483399))) (pC (.int 16))) (pVar 1))))))
def f_law_take (cl : Nat → Addr) : FN := fnF 2 3 [2] (b_law_take cl)
def b_law_name (cl : Nat → Addr) : List T → Option O :=
  (sSeq (sAsgD 1 (eOp [none, none] oAdd (aCons (eP (pC (.int 1))) (aCons (eCall (f_law_take cl) [some 0, none] (aBor 0 (aCons (eP (pC (.int 8))) aNil))) aNil))))
  (sRet (eJoin (pC (.str "")) (eLc [2] (iP (iR1 (pVar 1))) (gN 2) (eT bYes) (eOp [none, none] oIx (aCons (eP (pC (.str "abcdefghijklmnopqrstuvwxyz"))) (aCons (eCall (f_law_take cl) [some 0, none] (aBor 0 (aCons (eP (pC (.int 26))) aNil))) aNil)))))))
def f_law_name (cl : Nat → Addr) : FN := fnF 1 3 [1] (b_law_name cl)
def b_law_names (cl : Nat → Addr) : List T → Option O :=
  (sSeq (sAsg 2 (eLc [3] (iR1E (eCall (f_law_take cl) [some 0, none] (aBor 0 (aCons (eP (pOp oAdd (pVar 1) (pC (.int 1)))) aNil)))) (gN 3) (eT bYes) (eCall (f_law_name cl) [some 0] (aBor 0 aNil))))
  (sSeq (sIf (eAnd (eT (pTest (pOp oGt (pUn oLen (cVar 2)) (pC (.int 1))))) (eTest (eOp [none, none] oEq (aCons (eCall (f_law_take cl) [some 0, none] (aBor 0 (aCons (eP (pC (.int 3))) aNil))) (aCons (eP (pC (.int 0))) aNil)))))
  (sSetI 2 (eP (pOp oIx (cVar 2) (pUn oNeg (pC (.int 1))))) (pC (.int 0)))
  sNext)
  (sRet (eMov 2))))
def f_law_names (cl : Nat → Addr) : FN := fnF 2 4 [2] (b_law_names cl)
def b_law_number (cl : Nat → Addr) : List T → Option O :=
  (sRet (eOp [none, none] oIx (aCons (eLst [none, none, none, none] (aCons (eP (pC (.int 1))) (aCons (eP (pOp oPow (pC (.int 10)) (pC (.int 30)))) (aCons (eOp [none, none] oAdd (aCons (eP (pC (.int 2))) (aCons (eCall (f_law_take cl) [some 0, none] (aBor 0 (aCons (eP (pC (.int 900))) aNil))) aNil))) (aCons (eOp [none, none] oAdd (aCons (eP (pC (.int 1))) (aCons (eCall (f_law_take cl) [some 0, none] (aBor 0 (aCons (eP (pOp oPow (pC (.int 10)) (pC (.int 30)))) aNil))) aNil))) aNil))))) (aCons (eCall (f_law_take cl) [some 0, none] (aBor 0 (aCons (eP (pC (.int 4))) aNil))) aNil))))
def f_law_number (cl : Nat → Addr) : FN := fnF 1 1 [] (b_law_number cl)
def b_law_answers (cl : Nat → Addr) : List T → Option O :=
  (sSeq (sPar [2, 3] (aCons (eLst [] aNil) (aCons (eP (pVar 1)) aNil)))
  (sSeq (sFor (iR1E (eOp [none, none] oIx (aCons (eLst [none, none, none, none, none] (aCons (eP (pC (.int 0))) (aCons (eP (pC (.int 1))) (aCons (eP (pC (.int 2))) (aCons (eP (pC (.int 8))) (aCons (eCall (f_law_take cl) [some 0, none] (aBor 0 (aCons (eP (pC (.int 9))) aNil))) aNil)))))) (aCons (eCall (f_law_take cl) [some 0, none] (aBor 0 (aCons (eP (pC (.int 5))) aNil))) aNil)))) (gN 4)
  (sSeq (sAsgD 3 (eOp [none, none] oAdd (aCons (eOp [none, none] oMod (aCons (eUn [none] oInt (aCons (eOp [none, none] oAdd (aCons (eP (pVar 3)) (aCons (eCall (f_law_take cl) [some 0, none] (aBor 0 (aCons (eP (pC (.int 1000))) aNil))) aNil))) aNil)) (aCons (eP (pOp oPow (pC (.int 10)) (pC (.int 30)))) aNil))) (aCons (eP (pC (.int 1))) aNil))))
  (sIf (eT (bAnd (pTest (pOp oNotIn (pVar 3) (cVar 2))) (pTest (pOp oNe (pVar 3) (pVar 1)))))
  (sAppV 2 (eP (pVar 3)))
  sNext)))
  (sRet (eMov 2))))
def f_law_answers (cl : Nat → Addr) : FN := fnF 2 5 [2, 3, 4] (b_law_answers cl)
def b_law_fields (cl : Nat → Addr) : List T → Option O :=
  (sSeq (sAsgD 1 (eCall (f_law_number cl) [some 0] (aBor 0 aNil)))
  (sSeq (sAsgD 2 (eOp [none, none] oIx (aCons (eLst [none, none, none, none, none] (aCons (eP (pC (.int 0))) (aCons (eP (pC (.int 1))) (aCons (eP (pC (.int 8))) (aCons (eP (pC (.int 40))) (aCons (eCall (f_law_take cl) [some 0, none] (aBor 0 (aCons (eP (pC (.int 12))) aNil))) aNil)))))) (aCons (eCall (f_law_take cl) [some 0, none] (aBor 0 (aCons (eP (pC (.int 5))) aNil))) aNil))))
  (sSeq (sAsgD 3 (eLc [4] (iP (iR1 (pVar 2))) (gN 4) (eT bYes) (eCall (f_law_name cl) [some 0] (aBor 0 aNil))))
  (sRet (eLst [none, none, none, none, none, none] (aCons (eP (pVar 1)) (aCons (eCall (f_law_name cl) [some 0] (aBor 0 aNil)) (aCons (eCall (f_law_name cl) [some 0] (aBor 0 aNil)) (aCons (eCall (f_law_answers cl) [some 0, none] (aBor 0 (aCons (eP (pVar 1)) aNil))) (aCons (eCall (f_law_names cl) [some 0, none] (aBor 0 (aCons (eP (pC (.int 8))) aNil))) (aCons (eP (pVar 3)) aNil)))))))))))
def f_law_fields (cl : Nat → Addr) : FN := fnF 1 5 [1, 2, 3] (b_law_fields cl)
def b_is_name (cl : Nat → Addr) : List T → Option O :=
  (sSeq (sIf (eT (bOr (bNot (pTest (pOp oIsi2 (pVar 0) (pC (.raw (.ty "str")))))) (bNot (pTest (pChain oLe oLe (pC (.int 1)) (pUn oLen (pVar 0)) (pC (.int 8)))))))
  (sRet (eP (pC (.bl false))))
  sNext)
  (sRet (eP (pUn oAll (pLc [1] (iAnyF (pVar 0)) (gN 1) bYes (pChain oLe oLe (pC (.str "a")) (pVar 1) (pC (.str "z"))))))))
def f_is_name (cl : Nat → Addr) : FN := fnF 1 2 [] (b_is_name cl)
def b_is_number (cl : Nat → Addr) : List T → Option O :=
  (sRet (eP (pAnd (pOp oIsi2 (pVar 0) (pC (.raw (.ty "int")))) (pAnd (pNot (pOp oIsi2 (pVar 0) (pC (.raw (.ty "bool"))))) (pChain oLe oLe (pC (.int 1)) (pVar 0) (pC (.int 1000000000000000000000000000000)))))))
def f_is_number (cl : Nat → Addr) : FN := fnF 1 1 [] (b_is_number cl)
def b_is_numeral (cl : Nat → Addr) : List T → Option O :=
  (sSeq (sIf (eT (bOr (bNot (pTest (pChain oLe oLe (pC (.int 1)) (pUn oLen (pVar 0)) (pC (.int 31))))) (pTest (pOp oEq (pOp oIx (pVar 0) (pC (.int 0))) (pC (.str "0"))))))
  (sRet (eP (pC (.bl false))))
  sNext)
  (sRet (eP (pUn oAll (pLc [1] (iAnyF (pVar 0)) (gN 1) bYes (pChain oLe oLe (pC (.str "0")) (pVar 1) (pC (.str "9"))))))))
def f_is_numeral (cl : Nat → Addr) : FN := fnF 1 2 [] (b_is_numeral cl)
def b_are_names (cl : Nat → Addr) : List T → Option O :=
  (sSeq (sIf (eT (bOr (bNot (pTest (pUn (oIsiT ["list", "tuple"]) (pVar 0)))) (pTest (pOp oGt (pUn oLen (pVar 0)) (pVar 1)))))
  (sRet (eP (pC (.bl false))))
  sNext)
  (sRet (eP (pUn oAll (pLc [2] (iAnyF (pVar 0)) (gN 2) bYes (pCall (f_is_name cl) (pCons (pVar 2) pNil)))))))
def f_are_names (cl : Nat → Addr) : FN := fnF 2 3 [] (b_are_names cl)
def b_are_answers (cl : Nat → Addr) : List T → Option O :=
  (sSeq (sIf (eT (bOr (bNot (pTest (pUn (oIsiT ["list", "tuple"]) (pVar 0)))) (pTest (pOp oGt (pUn oLen (pVar 0)) (pC (.int 8))))))
  (sRet (eP (pC (.bl false))))
  sNext)
  (sSeq (sIf (eT (bNot (pTest (pUn oAll (pLc [2] (iAnyF (pVar 0)) (gN 2) bYes (pCall (f_is_number cl) (pCons (pVar 2) pNil)))))))
  (sRet (eP (pC (.bl false))))
  sNext)
  (sRet (eP (pAnd (pOp oNotIn (pVar 1) (pVar 0)) (pOp oEq (pUn oLenSet (pVar 0)) (pUn oLen (pVar 0))))))))
def f_are_answers (cl : Nat → Addr) : FN := fnF 2 3 [] (b_are_answers cl)
def b_wrong_field (cl : Nat → Addr) : List T → Option O :=
  (sSeq (sIf (eT (bNot (pTest (pCall (f_is_number cl) (pCons (pVar 0) pNil)))))
  (sRet (eP (pC (.str "number"))))
  sNext)
  (sSeq (sIf (eT (bNot (pTest (pCall (f_is_name cl) (pCons (pVar 1) pNil)))))
  (sRet (eP (pC (.str "person"))))
  sNext)
  (sSeq (sIf (eT (bNot (pTest (pCall (f_is_name cl) (pCons (pVar 2) pNil)))))
  (sRet (eP (pC (.str "house"))))
  sNext)
  (sSeq (sIf (eT (bNot (pTest (pCall (f_are_answers cl) (pCons (pVar 3) (pCons (pVar 0) pNil))))))
  (sRet (eP (pC (.str "answers"))))
  sNext)
  (sSeq (sIf (eT (bNot (pTest (pCall (f_are_names cl) (pCons (pVar 4) (pCons (pC (.int 8)) pNil))))))
  (sRet (eP (pC (.str "subject"))))
  sNext)
  (sSeq (sIf (eT (bNot (pTest (pCall (f_are_names cl) (pCons (pVar 5) (pCons (pC (.int 40)) pNil))))))
  (sRet (eP (pC (.str "words"))))
  sNext)
  (sRet (eP (pC .non)))))))))
def f_wrong_field (cl : Nat → Addr) : FN := fnF 6 6 [] (b_wrong_field cl)
def b_item_rows (cl : Nat → Addr) : List T → Option O :=
  (sSeq (sAsgD 2 (eP (pLc [3] (iAnyF (pVar 0)) (gN 3) bYes (pUn oStrU (pVar 3)))))
  (sRet (eLcO [4] (iR3 (pC (.int 0)) (pUn oLen (pVar 2)) (pVar 1)) (gN 4) bYes (pOp oJoin (pC (.str " ")) (pSl oSl (pVar 2) (oSome (pVar 4)) (oSome (pOp oAdd (pVar 4) (pVar 1))))))))
def f_item_rows (cl : Nat → Addr) : FN := fnF 2 5 [2] (b_item_rows cl)
def b_field_rows (cl : Nat → Addr) : List T → Option O :=
  (sSeq (sAsgD 3 (eP (pCall (f_item_rows cl) (pCons (pVar 1) (pCons (pVar 2) pNil)))))
  (sRet (eLcO [4, 5] (iEn (pVar 3)) (gTp 2 (gCn (gN 4) (gCn (gN 5) gNl))) bYes (pIf (pTest (pOp oEq (pVar 4) (pC (.int 0)))) (pJs [(pUn oFmt (pVar 0)), (pC (.str ": ")), (pUn oFmt (pVar 5))] Str.empty) (pJs [(pC (.str " ")), (pUn oFmt (pVar 5))] Str.empty)))))
def f_field_rows (cl : Nat → Addr) : FN := fnF 3 6 [3] (b_field_rows cl)
def b_Letter_init (cl : Nat → Addr) : List T → Option O :=
  (sSeq (sAsgD 7 (eP (pCall (f_wrong_field cl) (pCons (pVar 1) (pCons (pVar 2) (pCons (pVar 3) (pCons (pVar 4) (pCons (pVar 5) (pCons (pVar 6) pNil)))))))))
  (sSeq (sIf (eT (pTest (pOp oNotN (pVar 7) (pC .non))))
  sNo
  sNext)
  (sSeq (sFldO (cl 2) 0 "number" (eP (pVar 1)))
  (sSeq (sFldO (cl 2) 0 "person" (eP (pVar 2)))
  (sSeq (sFldO (cl 2) 0 "house" (eP (pVar 3)))
  (sSeq (sFldO (cl 2) 0 "answers" (eP (pUn oTuple (pVar 4))))
  (sSeq (sFldO (cl 2) 0 "subject" (eP (pUn oTuple (pVar 5))))
  (sSeq (sFldO (cl 2) 0 "words" (eP (pUn oTuple (pVar 6))))
  (sFldO (cl 2) 0 "sender" (eP (pJs [(pUn oFmt (pVar 2)), (pC (.str " at ")), (pUn oFmt (pVar 3))] Str.empty)))))))))))
def f_Letter_init (cl : Nat → Addr) : FN := fnF 7 8 [7] (b_Letter_init cl)
def b_Letter_written (cl : Nat → Addr) : List T → Option O :=
  (sSeq (sAsgD 1 (eP (pLst (pCons (pJs [(pC (.str "number: ")), (pUn oFmt (pFld (cl 2) ["number", "person", "house", "answers", "subject", "words", "sender"] 0 (pVar 0)))] Str.empty) (pCons (pJs [(pC (.str "from: ")), (pUn oFmt (pFld (cl 2) ["number", "person", "house", "answers", "subject", "words", "sender"] 6 (pVar 0)))] Str.empty) pNil)))))
  (sSeq (sAsgD 1 (eP (pOp oAdd (pVar 1) (pCall (f_field_rows cl) (pCons (pC (.str "answers")) (pCons (pFld (cl 2) ["number", "person", "house", "answers", "subject", "words", "sender"] 3 (pVar 0)) (pCons (pC (.int 3)) pNil)))))))
  (sSeq (sAsgD 1 (eP (pOp oAdd (pVar 1) (pCall (f_field_rows cl) (pCons (pC (.str "subject")) (pCons (pFld (cl 2) ["number", "person", "house", "answers", "subject", "words", "sender"] 4 (pVar 0)) (pCons (pC (.int 4)) pNil)))))))
  (sSeq (sIf (eT (bTr (pFld (cl 2) ["number", "person", "house", "answers", "subject", "words", "sender"] 5 (pVar 0))))
  (sAsgD 1 (eP (pOp oAdd (pOp oAdd (pVar 1) (pLst (pCons (pC (.str "")) pNil))) (pCall (f_item_rows cl) (pCons (pFld (cl 2) ["number", "person", "house", "answers", "subject", "words", "sender"] 5 (pVar 0)) (pCons (pC (.int 8)) pNil))))))
  sNext)
  (sRet (eP (pOp oJoin (pC (.str "\n")) (pVar 1))))))))
def f_Letter_written (cl : Nat → Addr) : FN := fnF 1 2 [1] (b_Letter_written cl)
def b_Letter_str (cl : Nat → Addr) : List T → Option O :=
  (sRet (eP (pUn oStrU (pMeth (cl 2) ["number", "person", "house", "answers", "subject", "words", "sender"] (f_Letter_written cl) (pVar 0) pNil))))
def f_Letter_str (cl : Nat → Addr) : FN := fnF 1 1 [] (b_Letter_str cl)
def b_Letter_eq (cl : Nat → Addr) : List T → Option O :=
  (sRet (eP (pAnd (pOp (oIsiO (cl 2)) (pVar 1) (pC (.raw (.ref (cl 2))))) (pAnd (pOp oEq (pFld (cl 2) ["number", "person", "house", "answers", "subject", "words", "sender"] 0 (pVar 0)) (pFld (cl 2) ["number", "person", "house", "answers", "subject", "words", "sender"] 0 (pVar 1))) (pAnd (pOp oEq (pFld (cl 2) ["number", "person", "house", "answers", "subject", "words", "sender"] 1 (pVar 0)) (pFld (cl 2) ["number", "person", "house", "answers", "subject", "words", "sender"] 1 (pVar 1))) (pAnd (pOp oEq (pFld (cl 2) ["number", "person", "house", "answers", "subject", "words", "sender"] 2 (pVar 0)) (pFld (cl 2) ["number", "person", "house", "answers", "subject", "words", "sender"] 2 (pVar 1))) (pAnd (pOp oEq (pFld (cl 2) ["number", "person", "house", "answers", "subject", "words", "sender"] 3 (pVar 0)) (pFld (cl 2) ["number", "person", "house", "answers", "subject", "words", "sender"] 3 (pVar 1))) (pAnd (pOp oEq (pFld (cl 2) ["number", "person", "house", "answers", "subject", "words", "sender"] 4 (pVar 0)) (pFld (cl 2) ["number", "person", "house", "answers", "subject", "words", "sender"] 4 (pVar 1))) (pOp oEq (pFld (cl 2) ["number", "person", "house", "answers", "subject", "words", "sender"] 5 (pVar 0)) (pFld (cl 2) ["number", "person", "house", "answers", "subject", "words", "sender"] 5 (pVar 1)))))))))))
def f_Letter_eq (cl : Nat → Addr) : FN := fnF 2 2 [] (b_Letter_eq cl)
def b_read_body (cl : Nat → Addr) : List T → Option O :=
  (sSeq (sAsg 2 (eLst [] aNil))
  (sSeq (sFor (iP (iR2 (pVar 1) (pUn oLen (pVar 0)))) (gN 3)
  (sSeq (sAsgD 4 (eP (pOp oSplit (pOp oIx (pVar 0) (pVar 3)) (pC (.str " ")))))
  (sSeq (sIf (eT (bNot (pTest (pUn oAll (pLcW [5] (iAnyF (pVar 4)) (gN 5) bYes (pCall (f_is_name cl) (pCons (pVar 5) pNil)))))))
  sNo
  sNext)
  (sFor (iP (iAnyF (pVar 4))) (gN 5)
  (sAppV 2 (eP (pTup (pCons (pVar 5) (pCons (pOp oAdd (pVar 3) (pC (.int 1))) pNil)))))))))
  (sRet (eMov 2))))
def f_read_body (cl : Nat → Addr) : FN := fnF 2 6 [2, 3, 4, 5] (b_read_body cl)
def b_is_right (cl : Nat → Addr) : List T → Option O :=
  (sSeq (sAsgG (gTp 2 (gCn (gN 2) (gCn (gN 3) gNl))) (eP (pOp oDIx (pVar 1) (pVar 0))))
  (sSeq (sIf (eT (pTest (pOp oEq (pVar 0) (pC (.str "number")))))
  (sRet (eP (pAnd (pOp oEq (pUn oLen (pVar 3)) (pC (.int 1))) (pAnd (pCall (f_is_numeral cl) (pCons (pOp oIx (pVar 3) (pC (.int 0))) pNil)) (pCall (f_is_number cl) (pCons (pUn oIntS (pOp oIx (pVar 3) (pC (.int 0)))) pNil))))))
  sNext)
  (sSeq (sIf (eT (pTest (pOp oEq (pVar 0) (pC (.str "from")))))
  (sRet (eP (pAnd (pOp oEq (pUn oLen (pVar 3)) (pC (.int 3))) (pAnd (pCall (f_is_name cl) (pCons (pOp oIx (pVar 3) (pC (.int 0))) pNil)) (pAnd (pOp oEq (pOp oIx (pVar 3) (pC (.int 1))) (pC (.str "at"))) (pCall (f_is_name cl) (pCons (pOp oIx (pVar 3) (pC (.int 2))) pNil)))))))
  sNext)
  (sSeq (sIf (eT (pTest (pOp oEq (pVar 0) (pC (.str "answers")))))
  (sSeq (sIf (eT (bNot (pTest (pUn oAll (pLc [4] (iAnyF (pVar 3)) (gN 4) bYes (pCall (f_is_numeral cl) (pCons (pVar 4) pNil)))))))
  (sRet (eP (pC (.bl false))))
  sNext)
  (sRet (eCall (f_are_answers cl) [none, none] (aCons (eP (pLc [4] (iAnyF (pVar 3)) (gN 4) bYes (pUn oIntS (pVar 4)))) (aCons (eP (pUn oIntS (pOp oIx (pOp oIx (pOp oDIx (pVar 1) (pC (.str "number"))) (pC (.int 1))) (pC (.int 0))))) aNil)))))
  sNext)
  (sRet (eCall (f_are_names cl) [none, none] (aCons (eP (pVar 3)) (aCons (eP (pC (.int 8))) aNil))))))))
def f_is_right (cl : Nat → Addr) : FN := fnF 2 5 [2, 3] (b_is_right cl)
def b_check_fields (cl : Nat → Addr) : List T → Option O :=
  (sFor (iP (iAnyF (pC (.tup [.str "number", .str "from", .str "answers", .str "subject"])))) (gN 1)
  (sIf (eT (pTest (pOp oDIn (pVar 1) (pVar 0))))
  (sSeq (sAsgG (gTp 2 (gCn (gN 2) (gCn (gN 3) gNl))) (eP (pOp oDIx (pVar 0) (pVar 1))))
  (sIf (eT (bNot (pTest (pCall (f_is_right cl) (pCons (pVar 1) (pCons (pVar 0) pNil))))))
  sNo
  sNext))
  (sIf (eT (pTest (pOp oIn (pVar 1) (pC (.tup [.str "number", .str "from"])))))
  sNo
  sNext)))
def f_check_fields (cl : Nat → Addr) : FN := fnF 1 4 [1, 2, 3] (b_check_fields cl)
def b_made_letter (cl : Nat → Addr) : List T → Option O :=
  (sSeq (sAsgD 2 (eP (pUn oIntS (pOp oIx (pOp oIx (pOp oDIx (pVar 0) (pC (.str "number"))) (pC (.int 1))) (pC (.int 0))))))
  (sSeq (sAsgG (gLs 3 (gCn (gN 3) (gCn (gN 4) (gCn (gN 5) gNl)))) (eP (pOp oIx (pOp oDIx (pVar 0) (pC (.str "from"))) (pC (.int 1)))))
  (sSeq (sAsgG (gTp 2 (gCn (gN 4) (gCn (gN 6) gNl))) (eP (pGet2 (pVar 0) (pC (.str "answers")) (pTup (pCons (pC (.int 0)) (pCons (pLst pNil) pNil))))))
  (sSeq (sAsgG (gTp 2 (gCn (gN 4) (gCn (gN 7) gNl))) (eP (pGet2 (pVar 0) (pC (.str "subject")) (pTup (pCons (pC (.int 0)) (pCons (pLst pNil) pNil))))))
  (sRet (eMake (cl 2) (f_Letter_init cl) [none, none, none, none, none, none] [none, none, none, none, none, none] (aCons (eP (pVar 2)) (aCons (eP (pVar 3)) (aCons (eP (pVar 5)) (aCons (eP (pLc [8] (iAnyF (pVar 6)) (gN 8) bYes (pUn oIntS (pVar 8)))) (aCons (eP (pVar 7)) (aCons (eP (pVar 1)) aNil))))))))))))
def f_made_letter (cl : Nat → Addr) : FN := fnF 2 9 [2, 3, 4, 5, 6, 7] (b_made_letter cl)
def b_read_head (cl : Nat → Addr) : List T → Option O :=
  (sSeq (sAsg 1 eDic)
  (sSeq (sAsgD 2 (eP (pC .non)))
  (sSeq (sFor (iP (iEn (pVar 0))) (gTp 2 (gCn (gN 3) (gCn (gN 4) gNl)))
  (sSeq (sAsgG (gTp 3 (gCn (gN 5) (gCn (gN 6) (gCn (gN 7) gNl)))) (eP (pOp oPart (pVar 4) (pC (.str ": ")))))
  (sSeq (sIf (eT (bAnd (pTest (pOp oStarts (pVar 4) (pC (.str " ")))) (pTest (pOp oNotN (pVar 2) (pC .non)))))
  (sPar [5, 7] (aCons (eP (pVar 2)) (aCons (eP (pSl oSl (pVar 4) (oSome (pC (.int 1))) oNone)) aNil)))
  (sIf (eT (bOr (pTest (pOp oNotIn (pVar 5) (pC (.tup [.str "number", .str "from", .str "answers", .str "subject"])))) (pTest (pOp oDIn (pVar 5) (cVar 1)))))
  sNo
  sNext))
  (sSeq (sAsgD 8 (eP (pOp oSplit (pVar 7) (pC (.str " ")))))
  (sSeq (sIf (eT (bNot (pTest (pUn oAll (pLc [11] (iAnyF (pVar 8)) (gN 11) bYes (pOr (pCall (f_is_name cl) (pCons (pVar 11) pNil)) (pCall (f_is_numeral cl) (pCons (pVar 11) pNil))))))))
  sNo
  sNext)
  (sSeq (sAsgG (gTp 2 (gCn (gN 9) (gCn (gN 10) gNl))) (eP (pGet2 (cVar 1) (pVar 5) (pTup (pCons (pOp oAdd (pVar 3) (pC (.int 1))) (pCons (pLst pNil) pNil))))))
  (sSeq (sDPutV 1 (eP (pTup (pCons (pVar 9) (pCons (pOp oAdd (pVar 10) (pVar 8)) pNil)))) (pVar 5))
  (sAsgD 2 (eP (pVar 5))))))))))
  (sRet (eMov 1)))))
def f_read_head (cl : Nat → Addr) : FN := fnF 1 12 [1, 2, 3, 4, 5, 6, 7, 8, 9, 10] (b_read_head cl)
def b_letter_of_rows (cl : Nat → Addr) : List T → Option O :=
  (sSeq (sAsgD 1 (eP (pLc [5, 6] (iEn (pVar 0)) (gTp 2 (gCn (gN 5) (gCn (gN 6) gNl))) (pTest (pOp oEq (pVar 6) (pC (.str "")))) (pVar 5))))
  (sSeq (sAsgD 2 (eP (pIf (bTr (pVar 1)) (pOp oIx (pVar 1) (pC (.int 0))) (pUn oLen (pVar 0)))))
  (sSeq (sAsgD 3 (eP (pCall (f_read_head cl) (pCons (pSl oSl (pVar 0) oNone (oSome (pVar 2))) pNil))))
  (sSeq (sIf (eT (pTest (pOp oEq (pVar 2) (pOp oSub (pUn oLen (pVar 0)) (pC (.int 1))))))
  sNo
  sNext)
  (sSeq (sAsgD 4 (eP (pCall (f_read_body cl) (pCons (pVar 0) (pCons (pOp oAdd (pVar 2) (pC (.int 1))) pNil)))))
  (sSeq (sExpr (eP (pCall (f_check_fields cl) (pCons (pVar 3) pNil))))
  (sSeq (sIf (eT (pTest (pOp oGt (pUn oLen (pVar 4)) (pC (.int 40)))))
  sNo
  sNext)
  (sRet (eCall (f_made_letter cl) [none, none] (aCons (eP (pVar 3)) (aCons (eP (pLc [7, 8] (iAnyF (pVar 4)) (gTp 2 (gCn (gN 7) (gCn (gN 8) gNl))) bYes (pVar 7))) aNil)))))))))))
def f_letter_of_rows (cl : Nat → Addr) : FN := fnF 1 9 [1, 2, 3, 4] (b_letter_of_rows cl)
def b_letter_of_part (cl : Nat → Addr) : List T → Option O :=
  (sNoX (sTryH [([((cl 0), false), ((cl 1), false), ((cl 3), true)], some 2, (fun _ _ => sNo))] (sRet (eCall (f_letter_of_rows cl) [none] (aCons (eP (pVar 0)) aNil)))))
def f_letter_of_part (cl : Nat → Addr) : FN := fnF 2 3 [2] (b_letter_of_part cl)
def b_read_letter (cl : Nat → Addr) : List T → Option O :=
  (sRet (eCall (f_letter_of_rows cl) [none] (aCons (eP (pOp oSplit (pVar 0) (pC (.str "\n")))) aNil)))
def f_read_letter (cl : Nat → Addr) : FN := fnF 1 1 [] (b_read_letter cl)
def b_read_letters (cl : Nat → Addr) : List T → Option O :=
  (sSeq (sIf (eT (pTest (pOp oEq (pVar 0) (pC (.str "")))))
  (sRet (eLst [] aNil))
  sNext)
  (sSeq (sAsgD 1 (eP (pOp oSplit (pVar 0) (pC (.str "\n")))))
  (sSeq (sAsgD 2 (eP (pOp oAdd (pLc [6, 7] (iEn (pVar 1)) (gTp 2 (gCn (gN 6) (gCn (gN 7) gNl))) (pTest (pOp oEq (pVar 7) (pC (.str "===")))) (pVar 6)) (pLst (pCons (pUn oLen (pVar 1)) pNil)))))
  (sSeq (sAsg 3 (eLst [] aNil))
  (sSeq (sAsgD 4 (eP (pC (.int 0))))
  (sSeq (sFor (iP (iAnyF (pVar 2))) (gN 5)
  (sSeq (sAppV 3 (eP (pCall (f_letter_of_part cl) (pCons (pSl oSl (pVar 1) (oSome (pVar 4)) (oSome (pVar 5))) (pCons (pVar 4) pNil)))))
  (sAsgD 4 (eP (pOp oAdd (pVar 5) (pC (.int 1)))))))
  (sRet (eMov 3))))))))
def f_read_letters (cl : Nat → Addr) : FN := fnF 1 8 [1, 2, 3, 4, 5] (b_read_letters cl)
def b_written_letters (cl : Nat → Addr) : List T → Option O :=
  (sRet (eP (pOp oJoin (pC (.str "\n===\n")) (pLc [1] (iAnyF (pVar 0)) (gN 1) bYes (pMeth (cl 2) ["number", "person", "house", "answers", "subject", "words", "sender"] (f_Letter_written cl) (pVar 1) pNil)))))
def f_written_letters (cl : Nat → Addr) : FN := fnF 1 2 [] (b_written_letters cl)
def b_law_letter (cl : Nat → Addr) : List T → Option O :=
  (sRet (eMake (cl 2) (f_Letter_init cl) [none, none, none, none, none, none] [none, none, none, none, none, none] (aCons (eP (pOp oIx (pVar 0) (pC (.int 0)))) (aCons (eP (pOp oIx (pVar 0) (pC (.int 1)))) (aCons (eP (pOp oIx (pVar 0) (pC (.int 2)))) (aCons (eP (pUn oList (pOp oIx (pVar 0) (pC (.int 3))))) (aCons (eP (pUn oList (pOp oIx (pVar 0) (pC (.int 4))))) (aCons (eP (pUn oList (pOp oIx (pVar 0) (pC (.int 5))))) aNil))))))))
def f_law_letter (cl : Nat → Addr) : FN := fnF 1 1 [] (b_law_letter cl)
def b_law_folded (cl : Nat → Addr) : List T → Option O :=
  (sSeq (sAsg 3 (eLst [none] (aCons (eP (pOp oAdd (pOp oAdd (pVar 1) (pC (.str ": "))) (pOp oIx (pVar 2) (pC (.int 0))))) aNil)))
  (sSeq (sFor (iP (iAnyF (pSl oSl (pVar 2) (oSome (pC (.int 1))) oNone))) (gN 4)
  (sIf (eTest (eOp [none, none] oEq (aCons (eCall (f_law_take cl) [some 0, none] (aBor 0 (aCons (eP (pC (.int 3))) aNil))) (aCons (eP (pC (.int 0))) aNil))))
  (sAppV 3 (eP (pOp oAdd (pC (.str " ")) (pVar 4))))
  (sSetI 3 (eP (pOp oAdd (pOp oAdd (pOp oIx (cVar 3) (pUn oNeg (pC (.int 1)))) (pC (.str " "))) (pVar 4))) (pUn oNeg (pC (.int 1))))))
  (sRet (eMov 3))))
def f_law_folded (cl : Nat → Addr) : FN := fnF 3 5 [3, 4] (b_law_folded cl)
def b_law_head (cl : Nat → Addr) : List T → Option O :=
  (sSeq (sAsg 2 (eDisp [("number", (pLst (pCons (pUn oStrU (pOp oIx (pVar 1) (pC (.int 0)))) pNil))), ("from", (pLst (pCons (pOp oIx (pVar 1) (pC (.int 1))) (pCons (pC (.str "at")) (pCons (pOp oIx (pVar 1) (pC (.int 2))) pNil)))))]))
  (sSeq (sIf (eT (pTest (pOp oNe (pOp oIx (pVar 1) (pC (.int 3))) (pLst pNil))))
  (sDPutV 2 (eP (pLc [8] (iAnyF (pOp oIx (pVar 1) (pC (.int 3)))) (gN 8) bYes (pUn oStrU (pVar 8)))) (pC (.str "answers")))
  sNext)
  (sSeq (sIf (eT (pTest (pOp oNe (pOp oIx (pVar 1) (pC (.int 4))) (pLst pNil))))
  (sDPutV 2 (eP (pUn oList (pOp oIx (pVar 1) (pC (.int 4))))) (pC (.str "subject")))
  sNext)
  (sSeq (sPar [3, 4, 5] (aCons (eListD (cVar 2)) (aCons (eP (pLst pNil)) (aCons eDic aNil))))
  (sSeq (sFor (iP (iR1 (pUn oLenD (cVar 2)))) (gN 6)
  (sSeq (sAsgD 7 (ePop 3 (eCall (f_law_take cl) [some 0, none] (aBor 0 (aCons (eP (pUn oLen (cVar 3))) aNil)))))
  (sSeq (sDPutV 5 (eP (pUn oLen (pVar 4))) (pVar 7))
  (sAsgD 4 (eOp [none, none] oAdd (aCons (eP (pVar 4)) (aCons (eCall (f_law_folded cl) [some 0, none, none] (aBor 0 (aCons (eP (pVar 7)) (aCons (eP (pOp oDIx (cVar 2) (pVar 7))) aNil)))) aNil)))))))
  (sRet (eLst [none, none] (aCons (eP (pVar 4)) (aCons (eFrz 5) aNil)))))))))
def f_law_head (cl : Nat → Addr) : FN := fnF 2 9 [2, 3, 4, 5, 6, 7] (b_law_head cl)
def b_law_body (cl : Nat → Addr) : List T → Option O :=
  (sSeq (sAsg 2 (eLst [] aNil))
  (sSeq (sFor (iP (iEn (pVar 1))) (gTp 2 (gCn (gN 3) (gCn (gN 4) gNl)))
  (sIf (eOr (eT (pTest (pOp oEq (pVar 3) (pC (.int 0))))) (eTest (eOp [none, none] oEq (aCons (eCall (f_law_take cl) [some 0, none] (aBor 0 (aCons (eP (pC (.int 4))) aNil))) (aCons (eP (pC (.int 0))) aNil)))))
  (sAppV 2 (eP (pVar 4)))
  (sSetI 2 (eP (pOp oAdd (pOp oAdd (pOp oIx (cVar 2) (pUn oNeg (pC (.int 1)))) (pC (.str " "))) (pVar 4))) (pUn oNeg (pC (.int 1))))))
  (sRet (eP (pIf (pTest (pOp oNe (cVar 2) (pLst pNil))) (pOp oAdd (pLst (pCons (pC (.str "")) pNil)) (cVar 2)) (pLst pNil))))))
def f_law_body (cl : Nat → Addr) : FN := fnF 2 5 [2, 3, 4] (b_law_body cl)
def b_law_wrapped (cl : Nat → Addr) : List T → Option O :=
  (sSeq (sAsg 3 (eLst [] aNil))
  (sSeq (sFor (iP (iR3 (pC (.int 0)) (pUn oLen (pVar 1)) (pVar 2))) (gN 4)
  (sSeq (sAsgD 5 (eP (pIf (pTest (pOp oEq (pVar 4) (pC (.int 0)))) (pOp oAdd (pVar 0) (pC (.str ": "))) (pC (.str " ")))))
  (sAppV 3 (eP (pOp oAdd (pVar 5) (pOp oJoin (pC (.str " ")) (pSl oSl (pVar 1) (oSome (pVar 4)) (oSome (pOp oAdd (pVar 4) (pVar 2))))))))))
  (sRet (eMov 3))))
def f_law_wrapped (cl : Nat → Addr) : FN := fnF 3 6 [3, 4, 5] (b_law_wrapped cl)
def b_law_written (cl : Nat → Addr) : List T → Option O :=
  (sSeq (sAsg 1 (eLst [none, none] (aCons (eP (pOp oAdd (pC (.str "number: ")) (pUn oStrU (pOp oIx (pVar 0) (pC (.int 0)))))) (aCons (eP (pOp oAdd (pOp oAdd (pOp oAdd (pC (.str "from: ")) (pOp oIx (pVar 0) (pC (.int 1)))) (pC (.str " at "))) (pOp oIx (pVar 0) (pC (.int 2))))) aNil))))
  (sSeq (sAsg 1 (eCat (cVar 1) (pCall (f_law_wrapped cl) (pCons (pC (.str "answers")) (pCons (pLc [3] (iAnyF (pOp oIx (pVar 0) (pC (.int 3)))) (gN 3) bYes (pUn oStrU (pVar 3))) (pCons (pC (.int 3)) pNil))))))
  (sSeq (sAsg 1 (eCat (cVar 1) (pCall (f_law_wrapped cl) (pCons (pC (.str "subject")) (pCons (pOp oIx (pVar 0) (pC (.int 4))) (pCons (pC (.int 4)) pNil))))))
  (sSeq (sIf (eT (pTest (pOp oNe (pOp oIx (pVar 0) (pC (.int 5))) (pLst pNil))))
  (sAppV 1 (eP (pC (.str ""))))
  sNext)
  (sSeq (sFor (iP (iR3 (pC (.int 0)) (pUn oLen (pOp oIx (pVar 0) (pC (.int 5)))) (pC (.int 8)))) (gN 2)
  (sAppV 1 (eP (pOp oJoin (pC (.str " ")) (pSl oSl (pOp oIx (pVar 0) (pC (.int 5))) (oSome (pVar 2)) (oSome (pOp oAdd (pVar 2) (pC (.int 8)))))))))
  (sRet (eP (pOp oJoin (pC (.str "\n")) (cVar 1)))))))))
def f_law_written (cl : Nat → Addr) : FN := fnF 1 4 [1, 2] (b_law_written cl)
def b_law_is_letter (cl : Nat → Addr) : List T → Option O :=
  (sSeq (sIf (eT (bOr (pTest (pOp oNe (pFld (cl 2) ["number", "person", "house", "answers", "subject", "words", "sender"] 0 (pVar 0)) (pOp oIx (pVar 1) (pC (.int 0))))) (bOr (pTest (pOp oIsi2 (pFld (cl 2) ["number", "person", "house", "answers", "subject", "words", "sender"] 0 (pVar 0)) (pC (.raw (.ty "bool"))))) (pTest (pOp oNe (pFld (cl 2) ["number", "person", "house", "answers", "subject", "words", "sender"] 1 (pVar 0)) (pOp oIx (pVar 1) (pC (.int 1))))))))
  (sRet (eP (pC (.bl false))))
  sNext)
  (sSeq (sIf (eT (bOr (pTest (pOp oNe (pFld (cl 2) ["number", "person", "house", "answers", "subject", "words", "sender"] 2 (pVar 0)) (pOp oIx (pVar 1) (pC (.int 2))))) (bOr (pTest (pOp oNe (pFld (cl 2) ["number", "person", "house", "answers", "subject", "words", "sender"] 3 (pVar 0)) (pUn oTuple (pOp oIx (pVar 1) (pC (.int 3)))))) (pTest (pOp oNe (pFld (cl 2) ["number", "person", "house", "answers", "subject", "words", "sender"] 4 (pVar 0)) (pUn oTuple (pOp oIx (pVar 1) (pC (.int 4)))))))))
  (sRet (eP (pC (.bl false))))
  sNext)
  (sRet (eP (pAnd (pOp oEq (pFld (cl 2) ["number", "person", "house", "answers", "subject", "words", "sender"] 5 (pVar 0)) (pUn oTuple (pOp oIx (pVar 1) (pC (.int 5))))) (pOp (oOwnEq (cl 2) (f_Letter_eq cl)) (pVar 0) (pCall (f_law_letter cl) (pCons (pVar 1) pNil))))))))
def f_law_is_letter (cl : Nat → Addr) : FN := fnF 2 2 [] (b_law_is_letter cl)
def b_law (cl : Nat → Addr) : List T → Option O :=
  (sSeq (sIf (eT (bOr (pTest (pOp oNe (pCall (f_written_letters cl) (pCons (pLst pNil) pNil)) (pC (.str "")))) (pTest (pOp oNe (pCall (f_read_letters cl) (pCons (pC (.str "")) pNil)) (pLst pNil)))))
  (sRet (eP (pC (.bl false))))
  sNext)
  (sSeq (sFor (iP (iR1 (pOp oMax2 (pC (.int 1)) (pOp oMin2 (pC (.int 3)) (pUn oLen (pVar 0)))))) (gN 1)
  (sSeq (sAsg 2 (eCall (f_law_bag cl) [none, none] (aCons (eP (pVar 0)) (aCons (eP (pVar 1)) aNil))))
  (sSeq (sAsg 3 (eLcW [6] (iR1E (eOp [none, none] oAdd (aCons (eP (pC (.int 1))) (aCons (eCall (f_law_take cl) [some 2, none] (aBor 2 (aCons (eP (pC (.int 3))) aNil))) aNil)))) (gN 6) (eT bYes) (eCall (f_law_fields cl) [some 2] (aBor 2 aNil))))
  (sSeq (sIf (eTest (eOp [none, none] oEq (aCons (eCall (f_law_take cl) [some 2, none] (aBor 2 (aCons (eP (pC (.int 4))) aNil))) (aCons (eP (pC (.int 0))) aNil))))
  (sAppV 3 (eP (pUn oList (pOp oIx (cVar 3) (pC (.int 0))))))
  sNext)
  (sSeq (sPar [4, 5] (aCons (eLst [] aNil) (aCons (eP (pLcW [7] (iAnyF (cVar 3)) (gN 7) bYes (pCall (f_law_letter cl) (pCons (pVar 7) pNil)))) aNil)))
  (sSeq (sFor (iEnE (eFrz 3)) (gTp 2 (gCn (gN 6) (gCn (gN 7) gNl)))
  (sSeq (sIf (eT (bOr (pTest (pOp oNe (pMeth (cl 2) ["number", "person", "house", "answers", "subject", "words", "sender"] (f_Letter_written cl) (pOp oIx (pVar 5) (pVar 6)) pNil) (pCall (f_law_written cl) (pCons (pVar 7) pNil)))) (pTest (pOp oNe (pUn (oStrOwn (cl 2) (f_Letter_str cl)) (pOp oIx (pVar 5) (pVar 6))) (pCall (f_law_written cl) (pCons (pVar 7) pNil))))))
  (sRet (eP (pC (.bl false))))
  sNext)
  (sSeq (sIf (eT (bNot (pTest (pCall (f_law_is_letter cl) (pCons (pCall (f_read_letter cl) (pCons (pMeth (cl 2) ["number", "person", "house", "answers", "subject", "words", "sender"] (f_Letter_written cl) (pOp oIx (pVar 5) (pVar 6)) pNil) pNil)) (pCons (pVar 7) pNil))))))
  (sRet (eP (pC (.bl false))))
  sNext)
  (sSeq (sAsgD 8 (eJoin (pC (.str "\n")) (eOp [none, none] oAdd (aCons (eOp [none, none] oIx (aCons (eCall (f_law_head cl) [some 2, none] (aBor 2 (aCons (eP (pVar 7)) aNil))) (aCons (eP (pC (.int 0))) aNil))) (aCons (eCall (f_law_body cl) [some 2, none] (aBor 2 (aCons (eP (pOp oIx (pVar 7) (pC (.int 5)))) aNil))) aNil)))))
  (sSeq (sIf (eT (bNot (pTest (pCall (f_law_is_letter cl) (pCons (pCall (f_read_letter cl) (pCons (pVar 8) pNil)) (pCons (pVar 7) pNil))))))
  (sRet (eP (pC (.bl false))))
  sNext)
  (sAppV 4 (eP (pVar 8))))))))
  (sSeq (sIf (eT (pTest (pOp oNe (pCall (f_written_letters cl) (pCons (pVar 5) pNil)) (pOp oJoin (pC (.str "\n===\n")) (pLcW [7] (iAnyF (cVar 3)) (gN 7) bYes (pCall (f_law_written cl) (pCons (pVar 7) pNil)))))))
  (sRet (eP (pC (.bl false))))
  sNext)
  (sFor (iP (iAnyF (pLst (pCons (pOp oJoin (pC (.str "\n===\n")) (cVar 4)) (pCons (pCall (f_written_letters cl) (pCons (pVar 5) pNil)) pNil))))) (gN 8)
  (sSeq (sAsgD 9 (eP (pCall (f_read_letters cl) (pCons (pVar 8) pNil))))
  (sSeq (sIf (eT (bOr (bNot (pTest (pOp oIsi2 (pVar 9) (pC (.raw (.ty "list")))))) (pTest (pOp oNe (pUn oLen (pVar 9)) (pUn oLen (cVar 3))))))
  (sRet (eP (pC (.bl false))))
  sNext)
  (sFor (iEnE (eFrz 3)) (gTp 2 (gCn (gN 6) (gCn (gN 7) gNl)))
  (sIf (eT (bNot (pTest (pCall (f_law_is_letter cl) (pCons (pOp oIx (pVar 9) (pVar 6)) (pCons (pVar 7) pNil))))))
  (sRet (eP (pC (.bl false))))
  sNext))))))))))))
  (sRet (eP (pC (.bl true))))))
def f_law (cl : Nat → Addr) : FN := fnF 1 10 [1, 2, 3, 4, 5, 6, 7, 8, 9] (b_law cl)
end G01
namespace G21
open PySem PySem.Spec PyProof.Rows L2 FD G01
noncomputable section
def b_those_in (cl : Nat → Addr) : List T → Option O :=
  (sRet (eP (pUn oTuple (pLc [2] (iAnyF (pVar 0)) (gN 2) (pTest (pOp oIn (pVar 2) (pVar 1))) (pVar 2)))))
def f_those_in (cl : Nat → Addr) : FN := fnF 2 3 [] (b_those_in cl)
def b_is_sender (cl : Nat → Addr) : List T → Option O :=
  (sSeq (sIf (eT (bNot (pTest (pOp oIsi2 (pVar 0) (pC (.raw (.ty "str")))))))
  (sRet (eP (pC (.bl false))))
  sNext)
  (sSeq (sAsgD 1 (eP (pOp oSplit (pVar 0) (pC (.str " ")))))
  (sRet (eP (pAnd (pOp oEq (pUn oLen (pVar 1)) (pC (.int 3))) (pAnd (pCall (f_is_name cl) (pCons (pOp oIx (pVar 1) (pC (.int 0))) pNil)) (pAnd (pOp oEq (pOp oIx (pVar 1) (pC (.int 1))) (pC (.str "at"))) (pCall (f_is_name cl) (pCons (pOp oIx (pVar 1) (pC (.int 2))) pNil)))))))))
def f_is_sender (cl : Nat → Addr) : FN := fnF 1 2 [1] (b_is_sender cl)
def b_Senders_init (cl : Nat → Addr) : List T → Option O :=
  (sSeq (sFldO (cl 26) 0 "_standings" (eP (pUn oTuple (cVar 1))))
  (sSeq (sFldO (cl 26) 0 "_by_hand" eDic)
  (sFldO (cl 26) 0 "_by_stamps" eDic)))
def f_Senders_init (cl : Nat → Addr) : FN := fnF 2 2 [] (b_Senders_init cl)
def b_Senders_give (cl : Nat → Addr) : List T → Option O :=
  (sAl 4 (lIfV 3 (lFld (cl 26) ["_standings", "_by_hand", "_by_stamps"] 1 (lVar 0)) (lFld (cl 26) ["_standings", "_by_hand", "_by_stamps"] 2 (lVar 0))) fun p =>
  (sAsgB p 5 (pGet2A p (pVar 1) (pTup pNil))
  (sIfA (pTest (pOp oIn (pVar 2) (pVar 5)))
  (sRet (eP (pC (.bl false))))
  (sDPutA p (pOp oAdd (pVar 5) (pTup (pCons (pVar 2) pNil))) (pVar 1)
  (sRet (eP (pC (.bl true))))))))
def f_Senders_give (cl : Nat → Addr) : FN := fnF 4 6 [4, 5] (b_Senders_give cl)
def b_Senders_standings_of (cl : Nat → Addr) : List T → Option O :=
  (sRet (eCall (f_those_in cl) [none, none] (aCons (eP (pFld (cl 26) ["_standings", "_by_hand", "_by_stamps"] 0 (pVar 0))) (aCons (eP (pOp oAdd (pGet2 (pFld (cl 26) ["_standings", "_by_hand", "_by_stamps"] 1 (pVar 0)) (pVar 1) (pTup pNil)) (pGet2 (pFld (cl 26) ["_standings", "_by_hand", "_by_stamps"] 2 (pVar 0)) (pVar 1) (pTup pNil)))) aNil))))
def f_Senders_standings_of (cl : Nat → Addr) : FN := fnF 2 2 [] (b_Senders_standings_of cl)
def b_Senders_by_hand (cl : Nat → Addr) : List T → Option O :=
  (sRet (eCall (f_those_in cl) [none, none] (aCons (eP (pFld (cl 26) ["_standings", "_by_hand", "_by_stamps"] 0 (pVar 0))) (aCons (eP (pGet2 (pFld (cl 26) ["_standings", "_by_hand", "_by_stamps"] 1 (pVar 0)) (pVar 1) (pTup pNil))) aNil))))
def f_Senders_by_hand (cl : Nat → Addr) : FN := fnF 2 2 [] (b_Senders_by_hand cl)
def b_Senders_names (cl : Nat → Addr) : List T → Option O :=
  (sRet (eFu (lSortSet (pOp oAdd (pUn oListD (pFld (cl 26) ["_standings", "_by_hand", "_by_stamps"] 1 (pVar 0))) (pUn oListD (pFld (cl 26) ["_standings", "_by_hand", "_by_stamps"] 2 (pVar 0)))))))
def f_Senders_names (cl : Nat → Addr) : FN := fnF 1 1 [] (b_Senders_names cl)
def b_Senders_contains (cl : Nat → Addr) : List T → Option O :=
  (sRet (eP (pOr (pOp oDIn (pVar 1) (pFld (cl 26) ["_standings", "_by_hand", "_by_stamps"] 1 (pVar 0))) (pOp oDIn (pVar 1) (pFld (cl 26) ["_standings", "_by_hand", "_by_stamps"] 2 (pVar 0))))))
def f_Senders_contains (cl : Nat → Addr) : FN := fnF 2 2 [] (b_Senders_contains cl)
def b_Senders_len (cl : Nat → Addr) : List T → Option O :=
  (sRet (eP (pUn oLen (pMeth (cl 26) ["_standings", "_by_hand", "_by_stamps"] (f_Senders_names cl) (pVar 0) pNil))))
def f_Senders_len (cl : Nat → Addr) : FN := fnF 1 1 [] (b_Senders_len cl)
def b_law_bag (cl : Nat → Addr) : List T → Option O :=
  (sSeq (sAsgD 2 (eP (pIf (pTest (pOp oLt (pVar 1) (pUn oLen (pVar 0)))) (pOp oIx (pVar 0) (pVar 1)) (pC (.int 0)))))
  (sSeq (sAsgD 3 (eP (pOp oAdd (pOp oMul (pC (.int 7919)) (pVar 1)) (pC (.int 1301)))))
  (sSeq (sFor (iP (iEn (pSl oSl (pVar 0) oNone (oSome (pC (.int 63)))))) (gTp 2 (gCn (gN 4) (gCn (gN 5) gNl)))
  (sAsgD 3 (eP (pOp oMod (pUn oInt (pOp oAdd (pOp oAdd (pOp oAdd (pOp oMul (pVar 3) (pC (.int 48611))) (pOp oMod (pUn oInt (pVar 5)) (pC (.int 2147483543)))) (pOp oMul (pC (.int 271)) (pVar 4))) (pC (.int 29)))) (pC (.int 2147483563))))))
  (sRet (eLst [none, none] (aCons (eP (pIf (pTest (pOp oGe (pUn oAbs (pVar 2)) (pOp oPow (pC (.int 10)) (pC (.int 18))))) (pUn oAbs (pVar 2)) (pC (.int 0)))) (aCons (eP (pVar 3)) aNil)))))))
def f_law_bag (cl : Nat → Addr) : FN := fnF 2 6 [2, 3, 4, 5] (b_law_bag cl)
def b_law_take (cl : Nat → Addr) : List T → Option O :=
  (sSeq (sIf (eT (pTest (pOp oGt (pOp oIx (cVar 0) (pC (.int 0))) (pC (.int 0)))))
  (sSeq (sAsgD 2 (eP (pOp oMod (pUn oInt (pOp oIx (cVar 0) (pC (.int 0)))) (pVar 1))))
  (sSeq (sSetI 0 (eP (pOp oDiv (pOp oIx (cVar 0) (pC (.int 0))) (pVar 1))) (pC (.int 0)))
  (sRet (eP (pVar 2)))))
  sNext)
  (sSeq (sSetI 0 (eP (pOp oMod (pUn oInt (pOp oAdd (pOp oMul (pOp oIx (cVar 0) (pC (.int 1))) (pC (.int 39373))) (pC (.int 7121)))) (pC (.int 2147483587)))) (pC (.int 1)))
  (sRet (eP (pOp oMod (pOp oDiv (pOp oMod (pUn oInt (pOp oMul (pOp oDiv (pOp oIx (cVar 0) (pC (.int 1))) (pC (.int 23))) (pC (.int 30269)))) (pC (.int 2147483549))) (pC (.int 61))) (pVar 1))))))
def f_law_take (cl : Nat → Addr) : FN := fnF 2 3 [2] (b_law_take cl)
def b_law_of (cl : Nat → Addr) : List T → Option O :=
  (sRet (eOp [none, none] oIx (aCons (eP (pVar 1)) (aCons (eCall (f_law_take cl) [some 0, none] (aBor 0 (aCons (eP (pUn oLen (pVar 1))) aNil))) aNil))))
def f_law_of (cl : Nat → Addr) : FN := fnF 2 2 [] (b_law_of cl)
def b_law_names (cl : Nat → Addr) : List T → Option O :=
  (sSeq (sAsgD 2 (eP (pC (.str "abcdefghijklmnopqrstuvwxyz"))))
  (sSeq (sAsgD 3 (eJoin (pC (.str "")) (eLc [7] (iR1E (eCall (f_law_of cl) [some 0, none] (aBor 0 (aCons (eP (pLst (pCons (pC (.int 0)) (pCons (pC (.int 0)) (pCons (pC (.int 2)) (pCons (pC (.int 7)) pNil)))))) aNil)))) (gN 7) (eT bYes) (eOp [none, none] oIx (aCons (eP (pVar 2)) (aCons (eCall (f_law_take cl) [some 0, none] (aBor 0 (aCons (eP (pC (.int 26))) aNil))) aNil))))))
  (sSeq (sAsgG (gTp 2 (gCn (gN 4) (gCn (gN 5) gNl))) (eTup [none, none] (aCons (eCall (f_law_take cl) [some 0, none] (aBor 0 (aCons (eP (pC (.int 26))) aNil))) (aCons (eCall (f_law_take cl) [some 0, none] (aBor 0 (aCons (eP (pC (.int 2))) aNil))) aNil))))
  (sSeq (sAsgD 6 (eP (pLc [7] (iR1 (pVar 1)) (gN 7) bYes (pOp oIx (pVar 2) (pOp oMod (pOp oAdd (pVar 4) (pOp oMul (pC (.int 7)) (pVar 7))) (pC (.int 26)))))))
  (sRet (eLcO [8] (iAnyF (pVar 6)) (gN 8) bYes (pIf (bTi (pVar 5)) (pOp oAdd (pVar 3) (pVar 8)) (pOp oAdd (pVar 8) (pVar 3)))))))))
def f_law_names (cl : Nat → Addr) : FN := fnF 2 9 [2, 3, 4, 5, 6] (b_law_names cl)
def b_law_told (cl : Nat → Addr) : List T → Option O :=
  (sSeq (sFor (iP (iAnyF (pVar 3))) (gN 4)
  (sSeq (sAsgD 5 (eP (pUn oTuple (pLc [8] (iAnyF (pVar 1)) (gN 8) (pTest (pOp oIn (pTup (pCons (pVar 4) (pCons (pVar 8) (pCons (pC (.bl true)) pNil)))) (cVar 2))) (pVar 8)))))
  (sSeq (sAsgD 6 (eP (pUn oTuple (pLc [8] (iAnyF (pVar 1)) (gN 8) (bOr (pTest (pOp oIn (pTup (pCons (pVar 4) (pCons (pVar 8) (pCons (pC (.bl true)) pNil)))) (cVar 2))) (pTest (pOp oIn (pTup (pCons (pVar 4) (pCons (pVar 8) (pCons (pC (.bl false)) pNil)))) (cVar 2)))) (pVar 8)))))
  (sSeq (sIf (eT (bWith 0 (bOr (pTest (pOp oNe (pMeth (cl 26) ["_standings", "_by_hand", "_by_stamps"] (f_Senders_by_hand cl) (pVar 0) (pCons (pVar 4) pNil)) (pVar 5))) (pTest (pOp oNe (pMeth (cl 26) ["_standings", "_by_hand", "_by_stamps"] (f_Senders_standings_of cl) (pVar 0) (pCons (pVar 4) pNil)) (pVar 6))))))
  (sRet (eP (pC (.bl false))))
  sNext)
  (sSeq (sIf (eT (bWith 0 (bOr (bNot (pTest (pOp oIsi2 (pMeth (cl 26) ["_standings", "_by_hand", "_by_stamps"] (f_Senders_by_hand cl) (pVar 0) (pCons (pVar 4) pNil)) (pC (.raw (.ty "tuple")))))) (bNot (pTest (pOp oIsi2 (pMeth (cl 26) ["_standings", "_by_hand", "_by_stamps"] (f_Senders_standings_of cl) (pVar 0) (pCons (pVar 4) pNil)) (pC (.raw (.ty "tuple")))))))))
  (sRet (eP (pC (.bl false))))
  sNext)
  (sIf (eT (bWith 0 (pTest (pOp oNe (pOp (oInOwn (cl 26) (f_Senders_contains cl)) (pVar 4) (pVar 0)) (pOp oNe (pVar 6) (pTup pNil))))))
  (sRet (eP (pC (.bl false))))
  sNext))))))
  (sSeq (sAsgD 7 (eP (pUn oSortD (pLcW [4] (iAnyF (pVar 3)) (gN 4) (pTest (pOp oNe (pLc [9] (iAnyF (cVar 2)) (gN 9) (pTest (pOp oEq (pOp oIx (pVar 9) (pC (.int 0))) (pVar 4))) (pVar 9)) (pLst pNil))) (pVar 4)))))
  (sRet (eAndV (eP (pWith 0 (pOp oIsi2 (pMeth (cl 26) ["_standings", "_by_hand", "_by_stamps"] (f_Senders_names cl) (pVar 0) pNil) (pC (.raw (.ty "list")))))) (eAndV (eP (pWith 0 (pOp oEq (pMeth (cl 26) ["_standings", "_by_hand", "_by_stamps"] (f_Senders_names cl) (pVar 0) pNil) (pVar 7)))) (eP (pWith 0 (pOp oEq (pUn (oLenOwn (cl 26) (f_Senders_len cl)) (pVar 0)) (pUn oLen (pVar 7))))))))))
def f_law_told (cl : Nat → Addr) : FN := fnF 4 10 [4, 5, 6, 7] (b_law_told cl)
def b_law_given (cl : Nat → Addr) : List T → Option O :=
  (sSeq (sIf (eT (pTest (pOp oIx (pVar 1) (pC (.int 2)))))
  (sRet (eMethN (cl 26) ["_standings", "_by_hand", "_by_stamps"] (f_Senders_give cl) 0 [none, none, none] [none, none, none] (aCons (eP (pOp oIx (pVar 1) (pC (.int 0)))) (aCons (eP (pOp oIx (pVar 1) (pC (.int 1)))) (aCons (eP (pC (.bl true))) aNil)))))
  sNext)
  (sRet (eMethN (cl 26) ["_standings", "_by_hand", "_by_stamps"] (f_Senders_give cl) 0 [none, none, some (.bl false)] [none, none] (aCons (eP (pOp oIx (pVar 1) (pC (.int 0)))) (aCons (eP (pOp oIx (pVar 1) (pC (.int 1)))) aNil)))))
def f_law_given (cl : Nat → Addr) : FN := fnF 2 2 [] (b_law_given cl)
def b_law_bool (cl : Nat → Addr) : List T → Option O :=
  (sRet (eP (pAnd (pOp oIsi2 (pVar 0) (pC (.raw (.ty "bool")))) (pOp oEq (pVar 0) (pVar 1)))))
def f_law_bool (cl : Nat → Addr) : FN := fnF 2 2 [] (b_law_bool cl)
def b_law_bent (cl : Nat → Addr) : List T → Option O :=
  (sSeq (sAsgD 1 (eP (pLst (pCons (pOp oAdd (pVar 0) (pC (.str " "))) (pCons (pOp oAdd (pC (.str " ")) (pVar 0)) (pCons (pRepl (pVar 0) " at " " by ") (pCons (pRepl (pVar 0) " at " " at  ") (pCons (pOp oAdd (pVar 0) (pC (.str " at a"))) pNil))))))))
  (sRet (eP (pOp oAdd (pVar 1) (pLst (pCons (pRepl (pVar 0) " " "") (pCons (pOp oAdd (pOp oAdd (pSl oSl (pVar 0) oNone (oSome (pC (.int 1)))) (pC (.str "1"))) (pSl oSl (pVar 0) (oSome (pC (.int 1))) oNone)) (pCons (pRepl (pVar 0) " at " " At ") (pCons (pLst (pCons (pVar 0) pNil)) (pCons (pTup (pCons (pVar 0) (pCons (pVar 0) pNil))) pNil))))))))))
def f_law_bent (cl : Nat → Addr) : FN := fnF 1 2 [1] (b_law_bent cl)
def b_law_none (cl : Nat → Addr) : List T → Option O :=
  (sRet (eP (pOp oEq (pLc [1] (iAnyF (pVar 0)) (gN 1) (pTest (pOp oNotB (pCall (f_is_sender cl) (pCons (pVar 1) pNil)) (pC (.bl false)))) (pVar 1)) (pLst pNil))))
def f_law_none (cl : Nat → Addr) : FN := fnF 1 2 [] (b_law_none cl)
def b_law_filled (cl : Nat → Addr) : List T → Option O :=
  (sSeq (sAsg 4 (eLst [] aNil))
  (sSeq (sFor (iAnyE (eFrz 2)) (gN 5)
  (sSeq (sIf (eNot (eTest (eCall (f_law_bool cl) [none, none] (aCons (eCall (f_law_given cl) [some 0, none] (aBor 0 (aCons (eP (pVar 5)) aNil))) (aCons (eP (pOp oNotIn (pVar 5) (cVar 4))) aNil)))))
  (sRet (eP (pC (.bl false))))
  sNext)
  (sSeq (sAppV 4 (eP (pVar 5)))
  (sIf (eNot (eTest (eCall (f_law_told cl) [some 0, none, some 4, none] (aBor 0 (aCons (eP (pVar 1)) (aBor 4 (aCons (eP (pVar 3)) aNil)))))))
  (sRet (eP (pC (.bl false))))
  sNext))))
  (sRet (eP (pC (.bl true))))))
def f_law_filled (cl : Nat → Addr) : FN := fnF 4 6 [4, 5] (b_law_filled cl)
def b_law (cl : Nat → Addr) : List T → Option O :=
  (sSeq (sFor (iP (iR1 (pOp oMax2 (pC (.int 1)) (pOp oMin2 (pC (.int 3)) (pUn oLen (pVar 0)))))) (gN 1)
  (sSeq (sAsg 2 (eCall (f_law_bag cl) [none, none] (aCons (eP (pVar 0)) (aCons (eP (pVar 1)) aNil))))
  (sSeq (sAsgD 3 (eCall (f_law_names cl) [some 2, none] (aBor 2 (aCons (eP (pC (.int 5))) aNil))))
  (sSeq (sPar [4, 5, 6] (aCons (eD (eOp [none, none] oSlH (aCons (eP (pVar 3)) (aCons (eOp [none, none] oAdd (aCons (eP (pC (.int 1))) (aCons (eCall (f_law_take cl) [some 2, none] (aBor 2 (aCons (eP (pC (.int 2))) aNil))) aNil))) aNil)))) (aCons (eP (pLst pNil)) (aCons (eLst [] aNil) aNil))))
  (sSeq (sIf (eTest (eOp [none, none] oEq (aCons (eCall (f_law_take cl) [some 2, none] (aBor 2 (aCons (eP (pC (.int 2))) aNil))) (aCons (eP (pC (.int 1))) aNil))))
  (sAsgD 4 (eP (pUn oRev (pVar 4))))
  sNext)
  (sSeq (sFor (iP (iAnyF (pSl oSl (pVar 3) oNone (oSome (pC (.int 2)))))) (gN 7)
  (sAsgD 5 (eP (pOp oAdd (pVar 5) (pLst (pCons (pOp oAdd (pOp oAdd (pVar 7) (pC (.str " at "))) (pOp oIx (pVar 3) (pC (.int 1)))) (pCons (pOp oAdd (pOp oAdd (pVar 7) (pC (.str " at "))) (pOp oIx (pVar 3) (pC (.int 2)))) pNil)))))))
  (sSeq (sFor (iR1E (eCall (f_law_take cl) [some 2, none] (aBor 2 (aCons (eP (pC (.int 25))) aNil)))) (gN 8)
  (sAppV 6 (eTup [none, none, none] (aCons (eCall (f_law_of cl) [some 2, none] (aBor 2 (aCons (eP (pVar 5)) aNil))) (aCons (eCall (f_law_of cl) [some 2, none] (aBor 2 (aCons (eP (pVar 4)) aNil))) (aCons (eOp [none, none] oEq (aCons (eCall (f_law_take cl) [some 2, none] (aBor 2 (aCons (eP (pC (.int 2))) aNil))) (aCons (eP (pC (.int 1))) aNil))) aNil))))))
  (sSeq (sAsg 9 (eList (pVar 4)))
  (sSeq (sPar [10, 11] (aCons (eMake (cl 26) (f_Senders_init cl) [none] [some 9] (aBor 9 aNil)) (aCons (eMake (cl 26) (f_Senders_init cl) [none] [none] (aCons (eP (pUn oTuple (pVar 4))) aNil)) aNil)))
  (sSeq (sRevV 9)
  (sSeq (sIf (eOr (eNot (eTest (eCall (f_law_filled cl) [some 10, none, some 6, none] (aBor 10 (aCons (eP (pVar 4)) (aBor 6 (aCons (eP (pVar 5)) aNil))))))) (eT (bWith 11 (bNot (pTest (pCall (f_law_told cl) (pCons (pVar 11) (pCons (pVar 4) (pCons (pLst pNil) (pCons (pVar 5) pNil))))))))))
  (sRet (eP (pC (.bl false))))
  sNext)
  (sSeq (sIf (eNot (eTest (eCall (f_law_filled cl) [some 11, none, none, none] (aBor 11 (aCons (eP (pVar 4)) (aCons (eP (pUn oRev (cVar 6))) (aCons (eP (pVar 5)) aNil)))))))
  (sRet (eP (pC (.bl false))))
  sNext)
  (sSeq (sAsg 12 (eFu (lWith 10 (lMeth (cl 26) ["_standings", "_by_hand", "_by_stamps"] (f_Senders_names cl) (pVar 10) pNil))))
  (sSeq (sAppV 12 (eP (pC (.str "zz"))))
  (sSeq (sIf (eOr (eNot (eTest (eCall (f_law_told cl) [some 10, none, some 6, none] (aBor 10 (aCons (eP (pVar 4)) (aBor 6 (aCons (eP (pVar 5)) aNil))))))) (eNot (eTest (eCall (f_law_told cl) [some 11, none, some 6, none] (aBor 11 (aCons (eP (pVar 4)) (aBor 6 (aCons (eP (pVar 5)) aNil))))))))
  (sRet (eP (pC (.bl false))))
  sNext)
  (sIf (eT (pTest (pOp oNe (pLcW [7] (iAnyF (pVar 5)) (gN 7) (bOr (pTest (pOp oNotB (pCall (f_is_sender cl) (pCons (pVar 7) pNil)) (pC (.bl true)))) (bNot (pTest (pCall (f_law_none cl) (pCons (pCall (f_law_bent cl) (pCons (pVar 7) pNil)) pNil))))) (pVar 7)) (pLst pNil))))
  (sRet (eP (pC (.bl false))))
  sNext))))))))))))))))
  (sSeq (sIf (eT (bOr (pTest (pOp oNotB (pCall (f_is_sender cl) (pCons (pC (.str "at at at")) pNil)) (pC (.bl true)))) (pTest (pOp oNotB (pCall (f_is_sender cl) (pCons (pC (.str "abcdefgh at abcdefgh")) pNil)) (pC (.bl true))))))
  (sRet (eP (pC (.bl false))))
  sNext)
  (sRet (eCall (f_law_none cl) [none] (aCons (eP (pLst (pCons (pC (.str "")) (pCons (pC (.str "at")) (pCons (pC (.str " at ")) (pCons (pC (.str "a at ")) (pCons (pC (.str "abcdefghi at b")) (pCons (pC .non) (pCons (pC (.int 5)) (pCons (pC (.bl true)) pNil)))))))))) aNil)))))
def f_law (cl : Nat → Addr) : FN := fnF 1 13 [1, 2, 3, 4, 5, 6, 7, 8, 9, 10, 11, 12] (b_law cl)
end
end G21
namespace G21
open PySem PySem.Spec PyProof.Rows L2 FD G01
def topS (i : Nat) : Stmt := PySem.Challenge.pw_filedalike_k21_standings_of_senders.main.body.getD i (.Pass ⟨0, 0, 0, 0⟩)
def methS (i j : Nat) : Stmt := match topS i with
  | .ClassDef (body := b) .. => b.getD j (.Pass ⟨0, 0, 0, 0⟩)
  | _ => .Pass ⟨0, 0, 0, 0⟩
section
variable {P : Program} {w : PySem.World} {K : PySem.W.Frag} {mg : Str → Option Value} {base : Heap} {cl : Nat → Addr}
abbrev s_is_name : Stmt := topS 2
theorem sc_is_name : FnScope ["value", "sign"] ["value"] (defScope s_is_name) := ⟨rfl, rfl, rfl, by decide +kernel, rfl, by decide +kernel, by decide +kernel⟩
theorem ok_is_name {f : Addr} {fd : FuncData} (F : Fun K "is_name" "is_name" s_is_name f fd) {t_LONGEST_NAME : Tok} (m_all : mg "all" = none) (m_isinstance : mg "isinstance" = none) (m_len : mg "len" = none) (m_str : mg "str" = none) (g_LONGEST_NAME : mg "LONGEST_NAME" = some (.int 8 t_LONGEST_NAME)) : FnOk P w K mg base CX0 1 f fd ["value"] (spF K (f_is_name cl)) :=
  okF F sc_is_name rfl rfl (by decide) fun cdv A outer s H E hr => ⟨_, (pss_cons (ps_if (PW.pt (pw_or (pt_not (pt_val (pe_callB call_isi rfl m_isinstance (by decide +kernel) (pa_cons (pv 0) (pa_cons (pe_bltn (v := .ty "str") rfl m_str (by decide +kernel) rfl) pa_nil))))) (pw_or1 (pt_not (pt_chain op_leA op_leA pe_int (pe_callB call_lenA rfl m_len (by decide +kernel) (pa_cons (pv 0) pa_nil)) (pe_glob (v := .int 8) rfl g_LONGEST_NAME ⟨_, rfl⟩))))))
      (pss_one (ps_ret pe_bl))
      pss_nil)
      (pss_one (ps_ret (pe_callB (cr_all rfl) rfl m_all (by decide +kernel) (pa_cons (pe_lc (own := [("sign", 1)])  rfl sc_is_name.nd (pi_any (pv 0)) (blkOk_by (N := ["value", "sign"]) (sc := defScope s_is_name) (by decide +kernel)) (fun _ _ _ _ _ => (pg_name (i := 1) sc_is_name.nd rfl (.inl rfl))) (fun _ _ _ _ _ => pts_nil) (fun _ _ _ _ _ => (pe_chain op_leA op_leA pe_str (pv 1) pe_str))) pa_nil))))),
    (rs_seq (rs_if (eft_p (put_or (put_not (put_b (pu_call2 (Pu.c (pu_var 0)) (Pu.c pu_raw) isi2_t))) (put_not (put_test (pu_chain (Pu.c pu_int) (Pu.c (pu_call1 (Pu.c (pu_var 0)) len_t)) (Pu.c pu_int) le_t le_t)))))
      (rs_ret (ef_p pu_bl))
      rs_next)
      (rs_ret (ef_p (pu_call1 (Pu.c (pu_lc (its_any (fz := true) (pu_var 0)) (rg_n (by decide)) put_yes (pu_chain (Pu.c pu_str) (Pu.c (pu_var 1)) (Pu.c pu_str) le_t le_t))) all_t))))⟩
abbrev s_those_in : Stmt := topS 3
theorem sc_those_in : FnScope ["names", "held", "name"] ["names", "held"] (defScope s_those_in) := ⟨rfl, rfl, rfl, by decide +kernel, rfl, by decide +kernel, by decide +kernel⟩
theorem ok_those_in {f : Addr} {fd : FuncData} (F : Fun K "those_in" "those_in" s_those_in f fd) (m_tuple : mg "tuple" = none) : FnOk P w K mg base CX0 1 f fd ["names", "held"] (spF K (f_those_in cl)) :=
  okF F sc_those_in rfl rfl (by decide) fun cdv A outer s H E hr => ⟨_, (pss_one (ps_ret (pe_callTy call_tuple_of rfl m_tuple (by decide +kernel) (pa_cons (pe_lc (own := [("name", 2)])  rfl sc_those_in.nd (pi_any (pv 0)) (blkOk_by (N := ["names", "held", "name"]) (sc := defScope s_those_in) (by decide +kernel)) (fun _ _ _ _ _ => (pg_name (i := 2) sc_those_in.nd rfl (.inl rfl))) (fun _ _ _ _ _ => (pts_one (pt_cmpR (op_inAK (K := K) (hu65 hr)) (pv 2) (pv 1) rfl))) (fun _ _ _ _ _ => (pv 2))) pa_nil)))),
    (rs_ret (ef_p (pu_call1 (Pu.c (pu_lc (its_any (fz := true) (pu_var 0)) (rg_n (by decide)) (put_test (pu_op (Pu.c (pu_var 2)) (Pu.c (pu_var 1)) in_t)) (pu_var 2))) tuple_t)))⟩
abbrev s_is_sender : Stmt := topS 5
theorem sc_is_sender : FnScope ["thing", "parts"] ["thing"] (defScope s_is_sender) := ⟨rfl, rfl, rfl, by decide +kernel, rfl, by decide +kernel, by decide +kernel⟩
theorem ok_is_sender {f : Addr} {fd : FuncData} (F : Fun K "is_sender" "is_sender" s_is_sender f fd) {f_is_name_ : Addr} {fd_is_name : FuncData} (G_is_name : FnOk P w K mg base CX0 1 f_is_name_ fd_is_name ["value"] (spF K (f_is_name cl))) (g_is_name : mg "is_name" = some (.ref f_is_name_)) (k_is_name : PySem.W.keepIn K (.ref f_is_name_) = true) (b_is_name : Binds K fd_is_name ["value"] []) (m_isinstance : mg "isinstance" = none) (m_len : mg "len" = none) (m_str : mg "str" = none) : FnOk P w K mg base CX0 2 f fd ["thing"] (spF K (f_is_sender cl)) :=
  okF F sc_is_sender rfl rfl (by decide) fun cdv A outer s H E hr => ⟨_, (pss_cons (ps_if (pt_not (pt_val (pe_callB call_isi rfl m_isinstance (by decide +kernel) (pa_cons (pv 0) (pa_cons (pe_bltn (v := .ty "str") rfl m_str (by decide +kernel) rfl) pa_nil)))))
      (pss_one (ps_ret pe_bl))
      pss_nil)
      (pss_cons (ps_set (i := 1) sc_is_sender.nd rfl (.inl rfl) (pe_split (pv 0) pe_str))
      (pss_one (ps_ret (pe_and (pe_cmpR (op_eqA (hu64 hr)) (pe_callB call_lenA rfl m_len (by decide +kernel) (pa_cons (pv 1) pa_nil)) pe_int (nomark _)) (pe_and (pe_call G_is_name (hr.mono (by decide)) rfl g_is_name k_is_name b_is_name .nil pass0 (pa_cons (pe_ix ix_seq (pv 1) pe_int (fun _ _ => rfl)) pa_nil)) (pe_and (pe_cmpR (op_eqA (hu64 hr)) (pe_ix ix_seq (pv 1) pe_int (fun _ _ => rfl)) pe_str (nomark _)) (pe_one (pe_call G_is_name (hr.mono (by decide)) rfl g_is_name k_is_name b_is_name .nil pass0 (pa_cons (pe_ix ix_seq (pv 1) pe_int (fun _ _ => rfl)) pa_nil)))))))))),
    (rs_seq (rs_if (eft_p (put_not (put_b (pu_call2 (Pu.c (pu_var 0)) (Pu.c pu_raw) isi2_t))))
      (rs_ret (ef_p pu_bl))
      rs_next)
      (rs_seq (rs_asgD (ef_p (pu_split (pu_var 0) pu_str)) (by decide))
      (rs_ret (ef_p (pu_and (pu_op (Pu.c (pu_call1 (Pu.c (pu_var 1)) len_t)) (Pu.c pu_int) eq_t) (pu_and (pu_call (pa_cons_ (pu_op (Pu.c (pu_var 1)) (Pu.c pu_int) ix_t) pa_nil_)) (pu_and (pu_op (Pu.c (pu_op (Pu.c (pu_var 1)) (Pu.c pu_int) ix_t)) (Pu.c pu_str) eq_t) (pu_call (pa_cons_ (pu_op (Pu.c (pu_var 1)) (Pu.c pu_int) ix_t) pa_nil_)))))))))⟩
abbrev s_Senders_init : Stmt := methS 6 0
theorem sc_Senders_init : FnScope ["self", "standings"] ["self", "standings"] (defScope s_Senders_init) := ⟨rfl, rfl, rfl, by decide +kernel, rfl, by decide +kernel, by decide +kernel⟩
theorem ok_Senders_init {f : Addr} {fd : FuncData} (F : Fun K "__init__" "Senders.__init__" s_Senders_init f fd) (c_Senders : Cls K (cl 26)) (n_Senders__standings : NoAttr K (cl 26) "_standings") (n_Senders__by_hand : NoAttr K (cl 26) "_by_hand") (n_Senders__by_stamps : NoAttr K (cl 26) "_by_stamps") (m_tuple : mg "tuple" = none) : FnOk P w K mg base CX0 1 f fd ["self", "standings"] (spF K (f_Senders_init cl)) :=
  okF F sc_Senders_init rfl rfl (by decide) fun cdv A outer s H E hr => ⟨_, (pss_cons (ps_fld (pv 0) (pe_callTy call_tuple_of rfl m_tuple (by decide +kernel) (pa_cons (pv 1) pa_nil)) rfl)
      (pss_cons (ps_fld (pv 0) pe_dnewK rfl)
      (pss_one (ps_fld (pv 0) pe_dnewK rfl)))),
    (rs_seq (rs_fldO c_Senders n_Senders__standings (ef_p (pu_call1 (cu_var 1) tuple_t)))
      (rs_seq (rs_fldO c_Senders n_Senders__by_hand ef_dic)
      (rs_fldO c_Senders n_Senders__by_stamps ef_dic)))⟩
abbrev s_Senders_give : Stmt := methS 6 1
theorem sc_Senders_give : FnScope ["self", "sender", "standing", "by_hand", "given", "before"] ["self", "sender", "standing", "by_hand"] (defScope s_Senders_give) := ⟨rfl, rfl, rfl, by decide +kernel, rfl, by decide +kernel, by decide +kernel⟩
theorem ok_Senders_give {f : Addr} {fd : FuncData} {dvs : List V} {kws : List (Str × V)} (F : FunD K "give" "Senders.give" (defArgs s_Senders_give) (defBody s_Senders_give) (defScope s_Senders_give) dvs kws f fd) (cf_Senders : ClsF K (cl 26) ["_standings", "_by_hand", "_by_stamps"]) : FnOk P w K mg base CX0 1 f fd ["self", "sender", "standing", "by_hand"] (spF K (f_Senders_give cl)) :=
  okFD F sc_Senders_give rfl rfl (by decide) fun cdv A outer s H E hr => ⟨_, (pss_cons (ps_set (i := 4) sc_Senders_give.nd rfl (.inl rfl) (pe_ifExp (pt_val (pv 3)) (pe_fld (pv 0) rfl) (pe_fld (pv 0) rfl)))
      (pss_cons (ps_set (i := 5) sc_Senders_give.nd rfl (.inl rfl) (pe_dget2 (hu1 hr) (pv 4) (pv 1) (pe_tup pa_nil) ⟨rfl, rfl, rfl, rfl⟩))
      (pss_cons (ps_if (pt_cmpR (op_inA (hu65 hr)) (pv 2) (pv 5) rfl)
      (pss_one (ps_ret pe_bl))
      pss_nil)
      (pss_cons (ps_dput (hu1 hr) (pv 4) (pv 1) (pe_op op_addA (pv 5) (pe_tup (pa_cons (pv 2) pa_nil))) rfl)
      (pss_one (ps_ret pe_bl)))))),
    (rs_al (by decide) (lo_ifV (lo_fld cf_Senders rfl (lo_var 0)) (lo_fld cf_Senders rfl (lo_var 0))) fun i p => (rb_seqG (pa_get2 (Pu.c (pu_var 1)) (pu_tup pa_nil_)) (by decide) (by decide)
      (ra_if (put_test (pu_op (Pu.c (pu_var 2)) (Pu.c (pu_var 5)) in_t)) (rs_ret (ef_p pu_bl)) (ends_ret) (ra_dput (pu_op (Pu.c (pu_var 5)) (Pu.c (pu_tup (pa_cons_ (pu_var 2) pa_nil_))) add_t) (pu_var 1) (rs_ret (ef_p pu_bl))))))⟩
abbrev s_Senders_standings_of : Stmt := methS 6 2
theorem sc_Senders_standings_of : FnScope ["self", "sender"] ["self", "sender"] (defScope s_Senders_standings_of) := ⟨rfl, rfl, rfl, by decide +kernel, rfl, by decide +kernel, by decide +kernel⟩
theorem ok_Senders_standings_of {f : Addr} {fd : FuncData} (F : Fun K "standings_of" "Senders.standings_of" s_Senders_standings_of f fd) {f_those_in_ : Addr} {fd_those_in : FuncData} (G_those_in : FnOk P w K mg base CX0 1 f_those_in_ fd_those_in ["names", "held"] (spF K (f_those_in cl))) (g_those_in : mg "those_in" = some (.ref f_those_in_)) (k_those_in : PySem.W.keepIn K (.ref f_those_in_) = true) (b_those_in : Binds K fd_those_in ["names", "held"] []) (cf_Senders : ClsF K (cl 26) ["_standings", "_by_hand", "_by_stamps"]) : FnOk P w K mg base CX0 2 f fd ["self", "sender"] (spF K (f_Senders_standings_of cl)) :=
  okF F sc_Senders_standings_of rfl rfl (by decide) fun cdv A outer s H E hr => ⟨_, (pss_one (ps_ret (pe_call G_those_in (hr.mono (by decide)) rfl g_those_in k_those_in b_those_in .nil pass0 (pa_cons (pe_fld (pv 0) rfl) (pa_cons (pe_op op_addA (pe_dget2 (hu1 hr) (pe_fld (pv 0) rfl) (pv 1) (pe_tup pa_nil) ⟨rfl, rfl, rfl, rfl⟩) (pe_dget2 (hu1 hr) (pe_fld (pv 0) rfl) (pv 1) (pe_tup pa_nil) ⟨rfl, rfl, rfl, rfl⟩)) pa_nil))))),
    (rs_ret (ef_call (efa_cons (ef_p (pu_fld cf_Senders rfl (pu_var 0))) (efa_cons (ef_p (pu_op (Pu.c (pu_get2 (Pu.c (pu_fld cf_Senders rfl (pu_var 0))) (Pu.c (pu_var 1)) (pu_tup pa_nil_))) (Pu.c (pu_get2 (Pu.c (pu_fld cf_Senders rfl (pu_var 0))) (Pu.c (pu_var 1)) (pu_tup pa_nil_))) add_t)) efa_nil))))⟩
abbrev s_Senders_by_hand : Stmt := methS 6 3
theorem sc_Senders_by_hand : FnScope ["self", "sender"] ["self", "sender"] (defScope s_Senders_by_hand) := ⟨rfl, rfl, rfl, by decide +kernel, rfl, by decide +kernel, by decide +kernel⟩
theorem ok_Senders_by_hand {f : Addr} {fd : FuncData} (F : Fun K "by_hand" "Senders.by_hand" s_Senders_by_hand f fd) {f_those_in_ : Addr} {fd_those_in : FuncData} (G_those_in : FnOk P w K mg base CX0 1 f_those_in_ fd_those_in ["names", "held"] (spF K (f_those_in cl))) (g_those_in : mg "those_in" = some (.ref f_those_in_)) (k_those_in : PySem.W.keepIn K (.ref f_those_in_) = true) (b_those_in : Binds K fd_those_in ["names", "held"] []) (cf_Senders : ClsF K (cl 26) ["_standings", "_by_hand", "_by_stamps"]) : FnOk P w K mg base CX0 2 f fd ["self", "sender"] (spF K (f_Senders_by_hand cl)) :=
  okF F sc_Senders_by_hand rfl rfl (by decide) fun cdv A outer s H E hr => ⟨_, (pss_one (ps_ret (pe_call G_those_in (hr.mono (by decide)) rfl g_those_in k_those_in b_those_in .nil pass0 (pa_cons (pe_fld (pv 0) rfl) (pa_cons (pe_dget2 (hu1 hr) (pe_fld (pv 0) rfl) (pv 1) (pe_tup pa_nil) ⟨rfl, rfl, rfl, rfl⟩) pa_nil))))),
    (rs_ret (ef_call (efa_cons (ef_p (pu_fld cf_Senders rfl (pu_var 0))) (efa_cons (ef_p (pu_get2 (Pu.c (pu_fld cf_Senders rfl (pu_var 0))) (Pu.c (pu_var 1)) (pu_tup pa_nil_))) efa_nil))))⟩
abbrev s_Senders_names : Stmt := methS 6 4
theorem sc_Senders_names : FnScope ["self"] ["self"] (defScope s_Senders_names) := ⟨rfl, rfl, rfl, by decide +kernel, rfl, by decide +kernel, by decide +kernel⟩
theorem ok_Senders_names {f : Addr} {fd : FuncData} (F : Fun K "names" "Senders.names" s_Senders_names f fd) (cf_Senders : ClsF K (cl 26) ["_standings", "_by_hand", "_by_stamps"]) (m_list : mg "list" = none) (m_set : mg "set" = none) (m_sorted : mg "sorted" = none) : FnOk P w K mg base CX0 1 f fd ["self"] (spF K (f_Senders_names cl)) :=
  okF F sc_Senders_names rfl rfl (by decide) fun cdv A outer s H E hr => ⟨_, (pss_one (ps_ret (pe_sortSetK hr.hd (hu64 hr) rfl m_sorted rfl m_set (pe_op op_addA (pe_callTy (call_listD rfl) rfl m_list (by decide +kernel) (pa_cons (pe_fld (pv 0) rfl) pa_nil)) (pe_callTy (call_listD rfl) rfl m_list (by decide +kernel) (pa_cons (pe_fld (pv 0) rfl) pa_nil)))))),
    (rs_ret (ef_fu (fu_sortSet (Pu.c (pu_op (Pu.c (pu_call1 (Pu.c (pu_fld cf_Senders rfl (pu_var 0))) listD_t)) (Pu.c (pu_call1 (Pu.c (pu_fld cf_Senders rfl (pu_var 0))) listD_t)) add_t)))))⟩
abbrev s_Senders_contains : Stmt := methS 6 5
theorem sc_Senders_contains : FnScope ["self", "sender"] ["self", "sender"] (defScope s_Senders_contains) := ⟨rfl, rfl, rfl, by decide +kernel, rfl, by decide +kernel, by decide +kernel⟩
theorem ok_Senders_contains {f : Addr} {fd : FuncData} (F : Fun K "__contains__" "Senders.__contains__" s_Senders_contains f fd) (cf_Senders : ClsF K (cl 26) ["_standings", "_by_hand", "_by_stamps"]) : FnOk P w K mg base CX0 1 f fd ["self", "sender"] (spF K (f_Senders_contains cl)) :=
  okF F sc_Senders_contains rfl rfl (by decide) fun cdv A outer s H E hr => ⟨_, (pss_one (ps_ret (pe_or (pe_cmpR (op_dIn (hu1 hr)) (pv 1) (pe_fld (pv 0) rfl) rfl) (pe_one (pe_cmpR (op_dIn (hu1 hr)) (pv 1) (pe_fld (pv 0) rfl) rfl))))),
    (rs_ret (ef_p (pu_or (pu_op (Pu.c (pu_var 1)) (Pu.c (pu_fld cf_Senders rfl (pu_var 0))) dIn_t) (pu_op (Pu.c (pu_var 1)) (Pu.c (pu_fld cf_Senders rfl (pu_var 0))) dIn_t))))⟩
abbrev s_Senders_len : Stmt := methS 6 6
theorem sc_Senders_len : FnScope ["self"] ["self"] (defScope s_Senders_len) := ⟨rfl, rfl, rfl, by decide +kernel, rfl, by decide +kernel, by decide +kernel⟩
theorem ok_Senders_len {f : Addr} {fd : FuncData} (F : Fun K "__len__" "Senders.__len__" s_Senders_len f fd) {f_Senders_names_ : Addr} {fd_Senders_names : FuncData} (G_Senders_names : FnOk P w K mg base CX0 1 f_Senders_names_ fd_Senders_names ["self"] (spF K (f_Senders_names cl))) (b_Senders_names : Binds K fd_Senders_names ["self"] []) (c_Senders : Cls K (cl 26)) (mt_Senders_names : Meth K (cl 26) "names" f_Senders_names_) (m_len : mg "len" = none) : FnOk P w K mg base CX0 2 f fd ["self"] (spF K (f_Senders_len cl)) :=
  okF F sc_Senders_len rfl rfl (by decide) fun cdv A outer s H E hr => ⟨_, (pss_one (ps_ret (pe_callB call_lenA rfl m_len (by decide +kernel) (pa_cons (pe_meth0 (pv 0) c_Senders mt_Senders_names G_Senders_names (hr.mono (by decide)) b_Senders_names .nil pass0) pa_nil)))),
    (rs_ret (ef_p (pu_call1 (Pu.c (pu_meth (by decide) (pu_var 0) pa_nil_)) len_t)))⟩
abbrev s_law_bag : Stmt := topS 8
theorem sc_law_bag : FnScope ["_law_script", "_law_at", "_law_number", "_law_mixed", "_law_spot", "_law_each"] ["_law_script", "_law_at"] (defScope s_law_bag) := ⟨rfl, rfl, rfl, by decide +kernel, rfl, by decide +kernel, by decide +kernel⟩
theorem ok_law_bag {f : Addr} {fd : FuncData} (F : Fun K "_law_bag" "_law_bag" s_law_bag f fd) (m_abs : mg "abs" = none) (m_enumerate : mg "enumerate" = none) (m_int : mg "int" = none) (m_len : mg "len" = none) : FnOk P w K mg base CX0 1 f fd ["_law_script", "_law_at"] (spF K (f_law_bag cl)) :=
  okF F sc_law_bag rfl rfl (by decide) fun cdv A outer s H E hr => ⟨_, (pss_cons (ps_set (i := 2) sc_law_bag.nd rfl (.inl rfl) (pe_ifExp (pt_cmpR op_ltA (pv 1) (pe_callB call_lenA rfl m_len (by decide +kernel) (pa_cons (pv 0) pa_nil)) (nomark _)) (pe_ix ix_seq (pv 0) (pv 1) (fun _ _ => rfl)) pe_int))
      (pss_cons (ps_set (i := 3) sc_law_bag.nd rfl (.inl rfl) (pe_op op_addA (pe_op op_mulW pe_int (pv 1)) pe_int))
      (pss_cons (ps_for PassesOwn.never rfl (pi_enum rfl m_enumerate (pa_cons (pe_slice sl_any (pv 0) po_none (po_some pe_int)) pa_nil)) (pg_tup rfl (pgs_cons (pg_name (i := 4) sc_law_bag.nd rfl (.inl rfl)) (pgs_cons (pg_name (i := 5) sc_law_bag.nd rfl (.inl rfl)) pgs_nil)))
      (pss_one (ps_set (i := 3) sc_law_bag.nd rfl (.inl rfl) (pe_op op_mod (pe_callTy call_int1 rfl m_int (by decide +kernel) (pa_cons (pe_op op_addA (pe_op op_addA (pe_op op_addA (pe_op op_mulW (pv 3) pe_int) (pe_op op_mod (pe_callTy call_int1 rfl m_int (by decide +kernel) (pa_cons (pv 5) pa_nil)) pe_int)) (pe_op op_mulW pe_int (pv 4))) pe_int) pa_nil)) pe_int))))
      (pss_one (ps_ret (pe_lst (pa_cons (pe_ifExp (pt_cmpR op_geA (pe_callB call_abs rfl m_abs (by decide +kernel) (pa_cons (pv 2) pa_nil)) (pe_op op_pow pe_int pe_int) (nomark _)) (pe_callB call_abs rfl m_abs (by decide +kernel) (pa_cons (pv 2) pa_nil)) pe_int) (pa_cons (pv 3) pa_nil)))))))),
    (rs_seq (rs_asgD (ef_p (pu_if (put_test (pu_op (Pu.c (pu_var 1)) (Pu.c (pu_call1 (Pu.c (pu_var 0)) len_t)) lt_t)) (pu_op (Pu.c (pu_var 0)) (Pu.c (pu_var 1)) ix_t) pu_int)) (by decide))
      (rs_seq (rs_asgD (ef_p (pu_op (Pu.c (pu_op (Pu.c pu_int) (Pu.c (pu_var 1)) mul_t)) (Pu.c pu_int) add_t)) (by decide))
      (rs_seq (rs_for (ite_p (its_enum (fz := true) (pu_sl (Pu.c (pu_var 0)) puo_none (puo_some pu_int) sl_t))) (rg_tp (rgs_cons (rg_n (by decide)) (rgs_cons (rg_n (by decide)) rgs_nil)))
      (rs_asgD (ef_p (pu_op (Pu.c (pu_call1 (Pu.c (pu_op (Pu.c (pu_op (Pu.c (pu_op (Pu.c (pu_op (Pu.c (pu_var 3)) (Pu.c pu_int) mul_t)) (Pu.c (pu_op (Pu.c (pu_call1 (Pu.c (pu_var 5)) int_t)) (Pu.c pu_int) mod_t)) add_t)) (Pu.c (pu_op (Pu.c pu_int) (Pu.c (pu_var 4)) mul_t)) add_t)) (Pu.c pu_int) add_t)) int_t)) (Pu.c pu_int) mod_t)) (by decide)))
      (rs_ret (ef_lst (efa_cons (ef_p (pu_if (put_test (pu_op (Pu.c (pu_call1 (Pu.c (pu_var 2)) abs_t)) (Pu.c (pu_op (Pu.c pu_int) (Pu.c pu_int) pow_t)) ge_t)) (pu_call1 (Pu.c (pu_var 2)) abs_t) pu_int)) (efa_cons (ef_p (pu_var 3)) efa_nil)))))))⟩
abbrev s_law_take : Stmt := topS 9
theorem sc_law_take : FnScope ["_law_bag_here", "_law_many", "_law_digit"] ["_law_bag_here", "_law_many"] (defScope s_law_take) := ⟨rfl, rfl, rfl, by decide +kernel, rfl, by decide +kernel, by decide +kernel⟩
theorem ok_law_take {f : Addr} {fd : FuncData} (F : Fun K "_law_take" "_law_take" s_law_take f fd) (m_int : mg "int" = none) : FnOk P w K mg base CX0 1 f fd ["_law_bag_here", "_law_many"] (spF K (f_law_take cl)) :=
  okF F sc_law_take rfl rfl (by decide) fun cdv A outer s H E hr => ⟨_, (pss_cons (ps_if (pt_cmpR op_gtA (pe_ix ix_seq (pv 0) pe_int (fun _ _ => rfl)) pe_int (nomark _))
      (pss_cons (ps_set (i := 2) sc_law_take.nd rfl (.inl rfl) (pe_op op_mod (pe_callTy call_int1 rfl m_int (by decide +kernel) (pa_cons (pe_ix ix_seq (pv 0) pe_int (fun _ _ => rfl)) pa_nil)) (pv 1)))
      (pss_cons (ps_asg (pe_op op_fdivW (pe_ix ix_seq (pv 0) pe_int (fun _ _ => rfl)) (pv 1)) (pg_sub (pv 0) pe_int set_list))
      (pss_one (ps_ret (pv 2)))))
      pss_nil)
      (pss_cons (ps_asg (pe_op op_mod (pe_callTy call_int1 rfl m_int (by decide +kernel) (pa_cons (pe_op op_addA (pe_op op_mulW (pe_ix ix_seq (pv 0) pe_int (fun _ _ => rfl)) pe_int) pe_int) pa_nil)) pe_int) (pg_sub (pv 0) pe_int set_list))
      (pss_one (ps_ret (pe_op op_mod (pe_op op_fdivW (pe_op op_mod (pe_callTy call_int1 rfl m_int (by decide +kernel) (pa_cons (pe_op op_mulW (pe_op op_fdivW (pe_ix ix_seq (pv 0) pe_int (fun _ _ => rfl)) pe_int) pe_int) pa_nil)) pe_int) pe_int) (pv 1)))))),
    (rs_seq (rs_if (eft_p (put_test (pu_op (Pu.c (pu_op (cu_var 0) (Pu.c pu_int) ix_t)) (Pu.c pu_int) gt_t)))
      (rs_seq (rs_asgD (ef_p (pu_op (Pu.c (pu_call1 (Pu.c (pu_op (cu_var 0) (Pu.c pu_int) ix_t)) int_t)) (Pu.c (pu_var 1)) mod_t)) (by decide))
      (rs_seq (rs_setI (ef_p (pu_op (Pu.c (pu_op (cu_var 0) (Pu.c pu_int) ix_t)) (Pu.c (pu_var 1)) div_t)) pu_int)
      (rs_ret (ef_p (pu_var 2)))))
      rs_next)
      (rs_seq (rs_setI (ef_p (pu_op (Pu.c (pu_call1 (Pu.c (pu_op (Pu.c (pu_op (Pu.c (pu_op (cu_var 0) (Pu.c pu_int) ix_t)) (Pu.c pu_int) mul_t)) (Pu.c pu_int) add_t)) int_t)) (Pu.c pu_int) mod_t)) pu_int)
      (rs_ret (ef_p (pu_op (Pu.c (pu_op (Pu.c (pu_op (Pu.c (pu_call1 (Pu.c (pu_op (Pu.c (pu_op (Pu.c (pu_op (cu_var 0) (Pu.c pu_int) ix_t)) (Pu.c pu_int) div_t)) (Pu.c pu_int) mul_t)) int_t)) (Pu.c pu_int) mod_t)) (Pu.c pu_int) div_t)) (Pu.c (pu_var 1)) mod_t)))))⟩
abbrev s_law_of : Stmt := topS 10
theorem sc_law_of : FnScope ["_law_bag_here", "_law_some_here"] ["_law_bag_here", "_law_some_here"] (defScope s_law_of) := ⟨rfl, rfl, rfl, by decide +kernel, rfl, by decide +kernel, by decide +kernel⟩
theorem ok_law_of {f : Addr} {fd : FuncData} (F : Fun K "_law_of" "_law_of" s_law_of f fd) {f_law_take_ : Addr} {fd_law_take : FuncData} (G_law_take : FnOk P w K mg base CX0 1 f_law_take_ fd_law_take ["_law_bag_here", "_law_many"] (spF K (f_law_take cl))) (g_law_take : mg "_law_take" = some (.ref f_law_take_)) (k_law_take : PySem.W.keepIn K (.ref f_law_take_) = true) (b_law_take : Binds K fd_law_take ["_law_bag_here", "_law_many"] []) (m_len : mg "len" = none) : FnOk P w K mg base CX0 2 f fd ["_law_bag_here", "_law_some_here"] (spF K (f_law_of cl)) :=
  okF F sc_law_of rfl rfl (by decide) fun cdv A outer s H E hr => ⟨_, (pss_one (ps_ret (pe_ix ix_seq (pv 1) (pe_call G_law_take (hr.mono (by decide)) rfl g_law_take k_law_take b_law_take .nil pass0 (pa_cons (pv 0) (pa_cons (pe_callB call_lenA rfl m_len (by decide +kernel) (pa_cons (pv 1) pa_nil)) pa_nil))) (fun _ _ => rfl)))),
    (rs_ret (ef_op (efa_cons (ef_p (pu_var 1)) (efa_cons (ef_call (efa_bor 0 (efa_cons (ef_p (pu_call1 (Pu.c (pu_var 1)) len_t)) efa_nil))) efa_nil)) ix_t))⟩
abbrev s_law_names : Stmt := topS 12
theorem sc_law_names : FnScope ["_law_bag_here", "_law_many", "_law_letters", "_law_base", "_law_start", "_law_is_behind", "_law_found", "_law_k", "_law_one"] ["_law_bag_here", "_law_many"] (defScope s_law_names) := ⟨rfl, rfl, rfl, by decide +kernel, rfl, by decide +kernel, by decide +kernel⟩
theorem ok_law_names {f : Addr} {fd : FuncData} (F : Fun K "_law_names" "_law_names" s_law_names f fd) {f_law_of_ : Addr} {fd_law_of : FuncData} {f_law_take_ : Addr} {fd_law_take : FuncData} (G_law_of : FnOk P w K mg base CX0 2 f_law_of_ fd_law_of ["_law_bag_here", "_law_some_here"] (spF K (f_law_of cl))) (g_law_of : mg "_law_of" = some (.ref f_law_of_)) (k_law_of : PySem.W.keepIn K (.ref f_law_of_) = true) (b_law_of : Binds K fd_law_of ["_law_bag_here", "_law_some_here"] []) (G_law_take : FnOk P w K mg base CX0 1 f_law_take_ fd_law_take ["_law_bag_here", "_law_many"] (spF K (f_law_take cl))) (g_law_take : mg "_law_take" = some (.ref f_law_take_)) (k_law_take : PySem.W.keepIn K (.ref f_law_take_) = true) (b_law_take : Binds K fd_law_take ["_law_bag_here", "_law_many"] []) (m_range : mg "range" = none) : FnOk P w K mg base CX0 3 f fd ["_law_bag_here", "_law_many"] (spF K (f_law_names cl)) :=
  okF F sc_law_names rfl rfl (by decide) fun cdv A outer s H E hr => ⟨_, (pss_cons (ps_set (i := 2) sc_law_names.nd rfl (.inr rfl) pe_str)
      (pss_cons (ps_set (i := 3) sc_law_names.nd rfl (.inr rfl) (pe_join pe_str (pe_lc (own := [("_law_k", 7)])  rfl sc_law_names.nd (pi_range1 rfl m_range (pa_cons (pe_call G_law_of (hr.mono (by decide)) rfl g_law_of k_law_of b_law_of .nil pass0 (pa_cons (pv 0) (pa_cons (pe_lst (pa_cons pe_int (pa_cons pe_int (pa_cons pe_int (pa_cons pe_int pa_nil))))) pa_nil))) pa_nil)) (blkOk_by (N := ["_law_bag_here", "_law_many", "_law_letters", "_law_base", "_law_start", "_law_is_behind", "_law_found", "_law_k", "_law_one"]) (sc := defScope s_law_names) (by decide +kernel)) (fun _ _ _ _ _ => (pg_name (i := 7) sc_law_names.nd rfl (.inl rfl))) (fun _ _ _ _ _ => pts_nil) (fun _ _ _ _ _ => (pe_ix (ix_seqK (K := K)) (pv 2) (pe_call G_law_take (hr.mono (by decide)) rfl g_law_take k_law_take b_law_take .nil pass0 (pa_cons (pv 0) (pa_cons pe_int pa_nil))) (fun _ _ => rfl))))))
      (pss_cons (ps_asg (pe_tup (pa_cons (pe_call G_law_take (hr.mono (by decide)) rfl g_law_take k_law_take b_law_take .nil pass0 (pa_cons (pv 0) (pa_cons pe_int pa_nil))) (pa_cons (pe_call G_law_take (hr.mono (by decide)) rfl g_law_take k_law_take b_law_take .nil pass0 (pa_cons (pv 0) (pa_cons pe_int pa_nil))) pa_nil))) (pg_tup rfl (pgs_cons (pg_name (i := 4) sc_law_names.nd rfl (.inr rfl)) (pgs_cons (pg_name (i := 5) sc_law_names.nd rfl (.inr rfl)) pgs_nil))))
      (pss_cons (ps_setLc (i := 6) (own := [("_law_k", 7)])  rfl sc_law_names.nd rfl rfl (sw_true rfl rfl rfl (by decide +kernel)) (pi_range1 rfl m_range (pa_cons (pv 1) pa_nil)) (blkOk_by (N := ["_law_bag_here", "_law_many", "_law_letters", "_law_base", "_law_start", "_law_is_behind", "_law_found", "_law_k", "_law_one"]) (sc := defScope s_law_names) (by decide +kernel)) (fun _ _ _ _ _ => (pg_name (i := 7) sc_law_names.nd rfl (.inl rfl))) (fun _ _ _ _ _ => pts_nil) (fun _ _ _ _ _ => (pe_ix (ix_seqK (K := K)) (pv 2) (pe_op op_mod (pe_op (op_addK (K := K)) (pv 4) (pe_op op_mulW pe_int (pv 7))) pe_int) (fun _ _ => rfl))))
      (pss_one (ps_ret (pe_lc (own := [("_law_one", 8)])  rfl sc_law_names.nd (pi_any (pv 6)) (blkOk_by (N := ["_law_bag_here", "_law_many", "_law_letters", "_law_base", "_law_start", "_law_is_behind", "_law_found", "_law_k", "_law_one"]) (sc := defScope s_law_names) (by decide +kernel)) (fun _ _ _ _ _ => (pg_name (i := 8) sc_law_names.nd rfl (.inl rfl))) (fun _ _ _ _ _ => pts_nil) (fun _ _ _ _ _ => (pe_ifExp (pt_tru (K := K) (pv 5)) (pe_op (op_addK (K := K)) (pv 3) (pv 8)) (pe_op (op_addK (K := K)) (pv 8) (pv 3))))))))))),
    (rs_seq (rs_asgD (ef_p pu_str) (by decide))
      (rs_seq (rs_asgD (ef_join pu_str (ef_lcE (ite_rng1 (ef_call (efa_bor 0 (efa_cons (ef_p (pu_lst (pa_cons_ pu_int (pa_cons_ pu_int (pa_cons_ pu_int (pa_cons_ pu_int pa_nil_)))))) efa_nil)))) (rg_n (by decide)) (eft_p put_yes) (ef_op (efa_cons (ef_p (pu_var 2)) (efa_cons (ef_call (efa_bor 0 (efa_cons (ef_p pu_int) efa_nil))) efa_nil)) ix_t))) (by decide))
      (rs_seq (rs_asgG (ef_tup (efa_cons (ef_call (efa_bor 0 (efa_cons (ef_p pu_int) efa_nil))) (efa_cons (ef_call (efa_bor 0 (efa_cons (ef_p pu_int) efa_nil))) efa_nil))) (rg_tp (rgs_cons (rg_n (by decide)) (rgs_cons (rg_n (by decide)) rgs_nil))))
      (rs_seq (rs_asgD (ef_p (pu_lc (its_rng1 (fz := true) (pu_var 1)) (rg_n (by decide)) put_yes (pu_op (Pu.c (pu_var 2)) (Pu.c (pu_op (Pu.c (pu_op (Pu.c (pu_var 4)) (Pu.c (pu_op (Pu.c pu_int) (Pu.c (pu_var 7)) mul_t)) add_t)) (Pu.c pu_int) mod_t)) ix_t))) (by decide))
      (rs_ret (ef_lcO (its_any (fz := true) (pu_var 6)) (rg_n (by decide)) put_yes (pu_if (put_tri (Pu.c (pu_var 5))) (pu_op (Pu.c (pu_var 3)) (Pu.c (pu_var 8)) add_t) (pu_op (Pu.c (pu_var 8)) (Pu.c (pu_var 3)) add_t))))))))⟩
abbrev s_law_told : Stmt := topS 13
theorem sc_law_told : FnScope ["_law_table", "_law_order", "_law_gifts", "_law_senders", "_law_one", "_law_hands", "_law_every", "_law_due", "_law_each", "_law_gift"] ["_law_table", "_law_order", "_law_gifts", "_law_senders"] (defScope s_law_told) := ⟨rfl, rfl, rfl, by decide +kernel, rfl, by decide +kernel, by decide +kernel⟩
theorem ok_law_told {f : Addr} {fd : FuncData} (F : Fun K "_law_told" "_law_told" s_law_told f fd) {f_Senders_standings_of_ : Addr} {fd_Senders_standings_of : FuncData} {f_Senders_by_hand_ : Addr} {fd_Senders_by_hand : FuncData} {f_Senders_contains_ : Addr} {fd_Senders_contains : FuncData} {f_Senders_len_ : Addr} {fd_Senders_len : FuncData} {f_Senders_names_ : Addr} {fd_Senders_names : FuncData} (G_Senders_standings_of : FnOk P w K mg base CX0 2 f_Senders_standings_of_ fd_Senders_standings_of ["self", "sender"] (spF K (f_Senders_standings_of cl))) (b_Senders_standings_of : Binds K fd_Senders_standings_of ["self", "sender"] []) (c_Senders : Cls K (cl 26)) (mt_Senders_standings_of : Meth K (cl 26) "standings_of" f_Senders_standings_of_) (G_Senders_by_hand : FnOk P w K mg base CX0 2 f_Senders_by_hand_ fd_Senders_by_hand ["self", "sender"] (spF K (f_Senders_by_hand cl))) (b_Senders_by_hand : Binds K fd_Senders_by_hand ["self", "sender"] []) (mt_Senders_by_hand : Meth K (cl 26) "by_hand" f_Senders_by_hand_) (G_Senders_contains : FnOk P w K mg base CX0 1 f_Senders_contains_ fd_Senders_contains ["self", "sender"] (spF K (f_Senders_contains cl))) (b_Senders_contains : Binds K fd_Senders_contains ["self", "sender"] []) (di_Senders : DunC K (cl 26) f_Senders_contains_ "__contains__") (G_Senders_len : FnOk P w K mg base CX0 2 f_Senders_len_ fd_Senders_len ["self"] (spF K (f_Senders_len cl))) (b_Senders_len : Binds K fd_Senders_len ["self"] []) (dl_Senders : DunC K (cl 26) f_Senders_len_ "__len__") (G_Senders_names : FnOk P w K mg base CX0 1 f_Senders_names_ fd_Senders_names ["self"] (spF K (f_Senders_names cl))) (b_Senders_names : Binds K fd_Senders_names ["self"] []) (mt_Senders_names : Meth K (cl 26) "names" f_Senders_names_) (m_isinstance : mg "isinstance" = none) (m_len : mg "len" = none) (m_list : mg "list" = none) (m_sorted : mg "sorted" = none) (m_tuple : mg "tuple" = none) : FnOk P w K mg base CX0 4 f fd ["_law_table", "_law_order", "_law_gifts", "_law_senders"] (spF K (f_law_told cl)) :=
  okF F sc_law_told rfl rfl (by decide) fun cdv A outer s H E hr => ⟨_, (pss_cons (ps_for PassesOwn.never rfl (pi_any (pv 3)) (pg_name (i := 4) sc_law_told.nd rfl (.inr rfl))
      (pss_cons (ps_set (i := 5) sc_law_told.nd rfl (.inl rfl) (pe_callTy call_tuple_of rfl m_tuple (by decide +kernel) (pa_cons (pe_lc (own := [("_law_each", 8)])  rfl sc_law_told.nd (pi_any (pv 1)) (blkOk_by (N := ["_law_table", "_law_order", "_law_gifts", "_law_senders", "_law_one", "_law_hands", "_law_every", "_law_due", "_law_each", "_law_gift"]) (sc := defScope s_law_told) (by decide +kernel)) (fun _ _ _ _ _ => (pg_name (i := 8) sc_law_told.nd rfl (.inl rfl))) (fun _ _ _ _ _ => (pts_one (pt_cmpR (op_inAK (K := K) (hu65 hr)) (pe_tup (pa_cons (pv 4) (pa_cons (pv 8) (pa_cons pe_bl pa_nil)))) (pv 2) rfl))) (fun _ _ _ _ _ => (pv 8))) pa_nil)))
      (pss_cons (ps_set (i := 6) sc_law_told.nd rfl (.inl rfl) (pe_callTy call_tuple_of rfl m_tuple (by decide +kernel) (pa_cons (pe_lc (own := [("_law_each", 8)])  rfl sc_law_told.nd (pi_any (pv 1)) (blkOk_by (N := ["_law_table", "_law_order", "_law_gifts", "_law_senders", "_law_one", "_law_hands", "_law_every", "_law_due", "_law_each", "_law_gift"]) (sc := defScope s_law_told) (by decide +kernel)) (fun _ _ _ _ _ => (pg_name (i := 8) sc_law_told.nd rfl (.inl rfl))) (fun _ _ _ _ _ => (pts_one (PW.pt (pw_or (pt_cmpR (op_inAK (K := K) (hu65 hr)) (pe_tup (pa_cons (pv 4) (pa_cons (pv 8) (pa_cons pe_bl pa_nil)))) (pv 2) rfl) (pw_or1 (pt_cmpR (op_inAK (K := K) (hu65 hr)) (pe_tup (pa_cons (pv 4) (pa_cons (pv 8) (pa_cons pe_bl pa_nil)))) (pv 2) rfl)))))) (fun _ _ _ _ _ => (pv 8))) pa_nil)))
      (pss_cons (ps_if (PW.pt (pw_or (pt_cmpR (op_neA (hu64 hr)) (pe_meth (pv 0) c_Senders mt_Senders_by_hand G_Senders_by_hand (hr.mono (by decide)) b_Senders_by_hand .nil pass0 (pa_cons (pv 4) pa_nil)) (pv 5) (nomark _)) (pw_or1 (pt_cmpR (op_neA (hu64 hr)) (pe_meth (pv 0) c_Senders mt_Senders_standings_of G_Senders_standings_of (hr.mono (by decide)) b_Senders_standings_of .nil pass0 (pa_cons (pv 4) pa_nil)) (pv 6) (nomark _)))))
      (pss_one (ps_ret pe_bl))
      pss_nil)
      (pss_cons (ps_if (PW.pt (pw_or (pt_not (pt_val (pe_callB call_isi rfl m_isinstance (by decide +kernel) (pa_cons (pe_meth (pv 0) c_Senders mt_Senders_by_hand G_Senders_by_hand (hr.mono (by decide)) b_Senders_by_hand .nil pass0 (pa_cons (pv 4) pa_nil)) (pa_cons (pe_bltn (v := .ty "tuple") rfl m_tuple (by decide +kernel) rfl) pa_nil))))) (pw_or1 (pt_not (pt_val (pe_callB call_isi rfl m_isinstance (by decide +kernel) (pa_cons (pe_meth (pv 0) c_Senders mt_Senders_standings_of G_Senders_standings_of (hr.mono (by decide)) b_Senders_standings_of .nil pass0 (pa_cons (pv 4) pa_nil)) (pa_cons (pe_bltn (v := .ty "tuple") rfl m_tuple (by decide +kernel) rfl) pa_nil))))))))
      (pss_one (ps_ret pe_bl))
      pss_nil)
      (pss_one (ps_if (pt_cmpR (op_neA (hu64 hr)) (pe_cmpR (op_inOwn di_Senders (FnOk.raw0 G_Senders_contains b_Senders_contains) (hr.mono (by decide)) pass0) (pv 4) (pv 0) rfl) (pe_cmpR (op_neA (hu64 hr)) (pv 6) (pe_tup pa_nil) (nomark _)) (nomark _))
      (pss_one (ps_ret pe_bl))
      pss_nil)))))))
      (pss_cons (ps_set (i := 7) sc_law_told.nd rfl (.inl rfl) (pe_callB (cr_sortD (hu64 hr)) rfl m_sorted (by decide +kernel) (pa_cons (pe_lc (own := [("_law_one", 4)])  rfl sc_law_told.nd (pi_any (pv 3)) (blkOk_by (N := ["_law_table", "_law_order", "_law_gifts", "_law_senders", "_law_one", "_law_hands", "_law_every", "_law_due", "_law_each", "_law_gift"]) (sc := defScope s_law_told) (by decide +kernel)) (fun _ _ _ _ _ => (pg_name (i := 4) sc_law_told.nd rfl (.inr rfl))) (fun _ _ _ _ _ => (pts_one (pt_cmpR (op_neAK (K := K) (hu64 hr)) (pe_lc (own := [("_law_gift", 9)])  rfl sc_law_told.nd (pi_any (pv 2)) (blkOk_nest (N := ["_law_table", "_law_order", "_law_gifts", "_law_senders", "_law_one", "_law_hands", "_law_every", "_law_due", "_law_each", "_law_gift"]) rfl (by decide +kernel)) (fun _ _ _ _ _ => (pg_name (i := 9) sc_law_told.nd rfl (.inl rfl))) (fun _ _ _ _ _ => (pts_one (pt_cmpR (op_eqAK (K := K) (hu64 hr)) (pe_ix (ix_seqK (K := K)) (pv 9) pe_int (fun _ _ => rfl)) (pv 4) (nomark _)))) (fun _ _ _ _ _ => (pv 9))) (pe_lst pa_nil) (nomark _)))) (fun _ _ _ _ _ => (pv 4))) pa_nil)))
      (pss_one (ps_ret (pe_and (pe_callB call_isi rfl m_isinstance (by decide +kernel) (pa_cons (pe_meth0 (pv 0) c_Senders mt_Senders_names G_Senders_names (hr.mono (by decide)) b_Senders_names .nil pass0) (pa_cons (pe_bltn (v := .ty "list") rfl m_list (by decide +kernel) rfl) pa_nil))) (pe_and (pe_cmpR (op_eqA (hu64 hr)) (pe_meth0 (pv 0) c_Senders mt_Senders_names G_Senders_names (hr.mono (by decide)) b_Senders_names .nil pass0) (pv 7) (nomark _)) (pe_one (pe_cmpR (op_eqA (hu64 hr)) (pe_callB (call_lenOwn dl_Senders (FnOk.raw0 G_Senders_len b_Senders_len) (hr.mono (by decide)) pass0) rfl m_len (by decide +kernel) (pa_cons (pv 0) pa_nil)) (pe_callB call_lenA rfl m_len (by decide +kernel) (pa_cons (pv 7) pa_nil)) (nomark _))))))))),
    (rs_seq (rs_for (ite_p (its_any (fz := true) (pu_var 3))) (rg_n (by decide))
      (rs_seq (rs_asgD (ef_p (pu_call1 (Pu.c (pu_lc (its_any (fz := true) (pu_var 1)) (rg_n (by decide)) (put_test (pu_op (Pu.c (pu_tup (pa_cons_ (pu_var 4) (pa_cons_ (pu_var 8) (pa_cons_ pu_bl pa_nil_))))) (cu_var 2) in_t)) (pu_var 8))) tuple_t)) (by decide))
      (rs_seq (rs_asgD (ef_p (pu_call1 (Pu.c (pu_lc (its_any (fz := true) (pu_var 1)) (rg_n (by decide)) (put_or (put_test (pu_op (Pu.c (pu_tup (pa_cons_ (pu_var 4) (pa_cons_ (pu_var 8) (pa_cons_ pu_bl pa_nil_))))) (cu_var 2) in_t)) (put_test (pu_op (Pu.c (pu_tup (pa_cons_ (pu_var 4) (pa_cons_ (pu_var 8) (pa_cons_ pu_bl pa_nil_))))) (cu_var 2) in_t))) (pu_var 8))) tuple_t)) (by decide))
      (rs_seq (rs_if (eft_p (put_with 0 (put_or (put_test (pu_op (Pu.c (pu_meth (by decide) (pu_var 0) (pa_cons_ (pu_var 4) pa_nil_))) (Pu.c (pu_var 5)) ne_t)) (put_test (pu_op (Pu.c (pu_meth (by decide) (pu_var 0) (pa_cons_ (pu_var 4) pa_nil_))) (Pu.c (pu_var 6)) ne_t)))))
      (rs_ret (ef_p pu_bl))
      rs_next)
      (rs_seq (rs_if (eft_p (put_with 0 (put_or (put_not (put_b (pu_call2 (Pu.c (pu_meth (by decide) (pu_var 0) (pa_cons_ (pu_var 4) pa_nil_))) (Pu.c pu_raw) isi2_t))) (put_not (put_b (pu_call2 (Pu.c (pu_meth (by decide) (pu_var 0) (pa_cons_ (pu_var 4) pa_nil_))) (Pu.c pu_raw) isi2_t))))))
      (rs_ret (ef_p pu_bl))
      rs_next)
      (rs_if (eft_p (put_with 0 (put_test (pu_op (Pu.c (pu_op (Pu.c (pu_var 4)) (Pu.c (pu_var 0)) inOwn_t)) (Pu.c (pu_op (Pu.c (pu_var 6)) (Pu.c (pu_tup pa_nil_)) ne_t)) ne_t))))
      (rs_ret (ef_p pu_bl))
      rs_next))))))
      (rs_seq (rs_asgD (ef_p (pu_call1 (Pu.c (pu_lcW (its_any (fz := true) (pu_var 3)) (rg_n (by decide)) (put_test (pu_op (Pu.c (pu_lc (its_any (fz := false) (cu_var 2)) (rg_n (by decide)) (put_test (pu_op (Pu.c (pu_op (Pu.c (pu_var 9)) (Pu.c pu_int) ix_t)) (Pu.c (pu_var 4)) eq_t)) (pu_var 9))) (Pu.c (pu_lst pa_nil_)) ne_t)) (pu_var 4))) sortD_t)) (by decide))
      (rs_ret (ef_andV (ef_p (pu_with 0 (pu_call2 (Pu.c (pu_meth (by decide) (pu_var 0) pa_nil_)) (Pu.c pu_raw) isi2_t))) (ef_andV (ef_p (pu_with 0 (pu_op (Pu.c (pu_meth (by decide) (pu_var 0) pa_nil_)) (Pu.c (pu_var 7)) eq_t))) (ef_p (pu_with 0 (pu_op (Pu.c (pu_call1 (Pu.c (pu_var 0)) lenOwn_t)) (Pu.c (pu_call1 (Pu.c (pu_var 7)) len_t)) eq_t))))))))⟩
abbrev s_law_given : Stmt := topS 14
theorem sc_law_given : FnScope ["_law_table", "_law_gift"] ["_law_table", "_law_gift"] (defScope s_law_given) := ⟨rfl, rfl, rfl, by decide +kernel, rfl, by decide +kernel, by decide +kernel⟩
theorem ok_law_given {f : Addr} {fd : FuncData} (F : Fun K "_law_given" "_law_given" s_law_given f fd) {f_Senders_give_ : Addr} {fd_Senders_give : FuncData} {gv_Senders_give_1_standing_by_hand : List Value → List Value → List Value} {gv_Senders_give_2_ : List Value → List Value → List Value} {dv_Senders_give_by_hand : V} (G_Senders_give : FnOk P w K mg base CX0 1 f_Senders_give_ fd_Senders_give ["self", "sender", "standing", "by_hand"] (spF K (f_Senders_give cl))) (c_Senders : Cls K (cl 26)) (mt_Senders_give : Meth K (cl 26) "give" f_Senders_give_) (kb_Senders_give_1_standing_by_hand : KBn K fd_Senders_give ["self", "sender", "standing", "by_hand"] 2 ["standing", "by_hand"] gv_Senders_give_1_standing_by_hand (fun vs zs => vs ++ zs)) (kb_Senders_give_2_ : KBn K fd_Senders_give ["self", "sender", "standing", "by_hand"] 3 [] gv_Senders_give_2_ (fun vs zs => vs ++ [dv_Senders_give_by_hand])) (dd_Senders_give_by_hand : ∀ I, Is K I dv_Senders_give_by_hand (.bl false)) : FnOk P w K mg base CX0 2 f fd ["_law_table", "_law_gift"] (spF K (f_law_given cl)) :=
  okF F sc_law_given rfl rfl (by decide) fun cdv A outer s H E hr => ⟨_, (pss_cons (ps_if (pt_val (pe_ix ix_seq (pv 1) pe_int (fun _ _ => rfl)))
      (pss_one (ps_ret (pe_methN (pv 0) c_Senders mt_Senders_give G_Senders_give (hr.mono (by decide)) kb_Senders_give_1_standing_by_hand pass0 (pa_cons (pe_ix ix_seq (pv 1) pe_int (fun _ _ => rfl)) pa_nil) (pk_cons (pe_ix ix_seq (pv 1) pe_int (fun _ _ => rfl)) (pk_cons pe_bl pk_nil)))))
      pss_nil)
      (pss_one (ps_ret (pe_methN (pv 0) c_Senders mt_Senders_give G_Senders_give (hr.mono (by decide)) kb_Senders_give_2_ pass0 (pa_cons (pe_ix ix_seq (pv 1) pe_int (fun _ _ => rfl)) (pa_cons (pe_ix ix_seq (pv 1) pe_int (fun _ _ => rfl)) pa_nil)) pk_nil)))),
    (rs_seq (rs_if (eft_p (put_b (pu_op (Pu.c (pu_var 1)) (Pu.c pu_int) ix_t)))
      (rs_ret (ef_methN (P := [none, none, none]) (l1 := [_]) (l2 := [_, _]) (by decide) (fun I q hq => by simp at hq) (efa_cons (ef_p (pu_op (Pu.c (pu_var 1)) (Pu.c pu_int) ix_t)) (efa_cons (ef_p (pu_op (Pu.c (pu_var 1)) (Pu.c pu_int) ix_t)) (efa_cons (ef_p pu_bl) efa_nil))) rfl rfl rfl (fun x vs zs h1 h2 => by exact match vs, zs, h1, h2 with | [_], [_, _], _, _ => rfl)))
      rs_next)
      (rs_ret (ef_methN (P := [none, none, some (dv_Senders_give_by_hand, .bl false)]) (l1 := [_, _]) (l2 := []) (by decide) (fun I q hq => by simp at hq; rcases hq with rfl <;> first | exact dd_Senders_give_by_hand I) (efa_cons (ef_p (pu_op (Pu.c (pu_var 1)) (Pu.c pu_int) ix_t)) (efa_cons (ef_p (pu_op (Pu.c (pu_var 1)) (Pu.c pu_int) ix_t)) efa_nil)) rfl rfl rfl (fun x vs zs h1 h2 => by exact match vs, zs, h1, h2 with | [_, _], [], _, _ => rfl))))⟩
abbrev s_law_bool : Stmt := topS 15
theorem sc_law_bool : FnScope ["_law_told_here", "_law_due"] ["_law_told_here", "_law_due"] (defScope s_law_bool) := ⟨rfl, rfl, rfl, by decide +kernel, rfl, by decide +kernel, by decide +kernel⟩
theorem ok_law_bool {f : Addr} {fd : FuncData} (F : Fun K "_law_bool" "_law_bool" s_law_bool f fd) (m_bool : mg "bool" = none) (m_isinstance : mg "isinstance" = none) : FnOk P w K mg base CX0 1 f fd ["_law_told_here", "_law_due"] (spF K (f_law_bool cl)) :=
  okF F sc_law_bool rfl rfl (by decide) fun cdv A outer s H E hr => ⟨_, (pss_one (ps_ret (pe_and (pe_callB call_isi rfl m_isinstance (by decide +kernel) (pa_cons (pv 0) (pa_cons (pe_bltn (v := .ty "bool") rfl m_bool (by decide +kernel) rfl) pa_nil))) (pe_one (pe_cmpR (op_eqA (hu64 hr)) (pv 0) (pv 1) (nomark _)))))),
    (rs_ret (ef_p (pu_and (pu_call2 (Pu.c (pu_var 0)) (Pu.c pu_raw) isi2_t) (pu_op (Pu.c (pu_var 0)) (Pu.c (pu_var 1)) eq_t))))⟩
abbrev s_law_bent : Stmt := topS 16
theorem sc_law_bent : FnScope ["_law_one", "_law_bent_here"] ["_law_one"] (defScope s_law_bent) := ⟨rfl, rfl, rfl, by decide +kernel, rfl, by decide +kernel, by decide +kernel⟩
theorem ok_law_bent {f : Addr} {fd : FuncData} (F : Fun K "_law_bent" "_law_bent" s_law_bent f fd) : FnOk P w K mg base CX0 1 f fd ["_law_one"] (spF K (f_law_bent cl)) :=
  okF F sc_law_bent rfl rfl (by decide) fun cdv A outer s H E hr => ⟨_, (pss_consG (psg_asg (peg_lst (pag_cons (peg_opC op_addA (pv 0)) (pat_cons (CwR.PET.of (pe_op op_addA pe_str (pv 0))) (pat_cons (CwR.pet_replC (pv 0)) (pat_cons (CwR.pet_replC (pv 0)) (pat_cons (CwR.PET.of (pe_op op_addA (pv 0) pe_str)) pat_nil)))))) (pg_name (i := 1) sc_law_bent.nd rfl (.inl rfl)))
      (CwR.psst_one (CwR.pst_ret (CwR.pet_op op_addA (CwR.PET.of (pv 1)) (pet_lst (pat_cons (CwR.pet_replC (pv 0)) (pat_cons (CwR.PET.of (pe_op op_addA (pe_op op_addA (pe_slice sl_any (pv 0) po_none (po_some pe_int)) pe_str) (pe_slice sl_any (pv 0) (po_some pe_int) po_none))) (pat_cons (CwR.pet_replC (pv 0)) (pat_cons (CwR.PET.of (pe_lst (pa_cons (pv 0) pa_nil))) (pat_cons (CwR.PET.of (pe_tup (pa_cons (pv 0) (pa_cons (pv 0) pa_nil)))) pat_nil)))))))))),
    (rs_seq (rs_asgD (ef_p (pu_lst (pa_cons_ (pu_op (Pu.c (pu_var 0)) (Pu.c pu_str) add_t) (pa_cons_ (pu_op (Pu.c pu_str) (Pu.c (pu_var 0)) add_t) (pa_cons_ (pu_repl (pu_var 0)) (pa_cons_ (pu_repl (pu_var 0)) (pa_cons_ (pu_op (Pu.c (pu_var 0)) (Pu.c pu_str) add_t) pa_nil_))))))) (by decide))
      (rs_ret (ef_p (pu_op (Pu.c (pu_var 1)) (Pu.c (pu_lst (pa_cons_ (pu_repl (pu_var 0)) (pa_cons_ (pu_op (Pu.c (pu_op (Pu.c (pu_sl (Pu.c (pu_var 0)) puo_none (puo_some pu_int) sl_t)) (Pu.c pu_str) add_t)) (Pu.c (pu_sl (Pu.c (pu_var 0)) (puo_some pu_int) puo_none sl_t)) add_t) (pa_cons_ (pu_repl (pu_var 0)) (pa_cons_ (pu_lst (pa_cons_ (pu_var 0) pa_nil_)) (pa_cons_ (pu_tup (pa_cons_ (pu_var 0) (pa_cons_ (pu_var 0) pa_nil_))) pa_nil_))))))) add_t))))⟩
abbrev s_law_none : Stmt := topS 17
theorem sc_law_none : FnScope ["_law_things", "_law_one"] ["_law_things"] (defScope s_law_none) := ⟨rfl, rfl, rfl, by decide +kernel, rfl, by decide +kernel, by decide +kernel⟩
theorem ok_law_none {f : Addr} {fd : FuncData} (F : Fun K "_law_none" "_law_none" s_law_none f fd) {f_is_sender_ : Addr} {fd_is_sender : FuncData} (G_is_sender : FnOk P w K mg base CX0 2 f_is_sender_ fd_is_sender ["thing"] (spF K (f_is_sender cl))) (g_is_sender : mg "is_sender" = some (.ref f_is_sender_)) (k_is_sender : PySem.W.keepIn K (.ref f_is_sender_) = true) (b_is_sender : Binds K fd_is_sender ["thing"] []) : FnOk P w K mg base CX0 3 f fd ["_law_things"] (spF K (f_law_none cl)) :=
  okF F sc_law_none rfl rfl (by decide) fun cdv A outer s H E hr => ⟨_, (pss_one (ps_ret (pe_cmpR (op_eqA (hu64 hr)) (pe_lc (own := [("_law_one", 1)])  rfl sc_law_none.nd (pi_any (pv 0)) (blkOk_by (N := ["_law_things", "_law_one"]) (sc := defScope s_law_none) (by decide +kernel)) (fun _ _ _ _ _ => (pg_name (i := 1) sc_law_none.nd rfl (.inl rfl))) (fun _ _ _ _ _ => (pts_one (pt_cmpR op_isnot_bl (pe_call G_is_sender (hr.mono (by decide)) rfl g_is_sender k_is_sender b_is_sender .nil pass0 (pa_cons (pv 1) pa_nil)) pe_bl (nomark _)))) (fun _ _ _ _ _ => (pv 1))) (pe_lst pa_nil) (nomark _)))),
    (rs_ret (ef_p (pu_op (Pu.c (pu_lc (its_any (fz := true) (pu_var 0)) (rg_n (by decide)) (put_test (pu_op (Pu.c (pu_call (pa_cons_ (pu_var 1) pa_nil_))) (Pu.c pu_bl) notB_t)) (pu_var 1))) (Pu.c (pu_lst pa_nil_)) eq_t)))⟩
abbrev s_law_filled : Stmt := topS 18
theorem sc_law_filled : FnScope ["_law_table", "_law_order", "_law_row", "_law_senders", "_law_gifts", "_law_gift"] ["_law_table", "_law_order", "_law_row", "_law_senders"] (defScope s_law_filled) := ⟨rfl, rfl, rfl, by decide +kernel, rfl, by decide +kernel, by decide +kernel⟩
theorem ok_law_filled {f : Addr} {fd : FuncData} (F : Fun K "_law_filled" "_law_filled" s_law_filled f fd) {f_law_bool_ : Addr} {fd_law_bool : FuncData} {f_law_given_ : Addr} {fd_law_given : FuncData} {f_law_told_ : Addr} {fd_law_told : FuncData} (G_law_bool : FnOk P w K mg base CX0 1 f_law_bool_ fd_law_bool ["_law_told_here", "_law_due"] (spF K (f_law_bool cl))) (g_law_bool : mg "_law_bool" = some (.ref f_law_bool_)) (k_law_bool : PySem.W.keepIn K (.ref f_law_bool_) = true) (b_law_bool : Binds K fd_law_bool ["_law_told_here", "_law_due"] []) (G_law_given : FnOk P w K mg base CX0 2 f_law_given_ fd_law_given ["_law_table", "_law_gift"] (spF K (f_law_given cl))) (g_law_given : mg "_law_given" = some (.ref f_law_given_)) (k_law_given : PySem.W.keepIn K (.ref f_law_given_) = true) (b_law_given : Binds K fd_law_given ["_law_table", "_law_gift"] []) (G_law_told : FnOk P w K mg base CX0 4 f_law_told_ fd_law_told ["_law_table", "_law_order", "_law_gifts", "_law_senders"] (spF K (f_law_told cl))) (g_law_told : mg "_law_told" = some (.ref f_law_told_)) (k_law_told : PySem.W.keepIn K (.ref f_law_told_) = true) (b_law_told : Binds K fd_law_told ["_law_table", "_law_order", "_law_gifts", "_law_senders"] []) : FnOk P w K mg base CX0 5 f fd ["_law_table", "_law_order", "_law_row", "_law_senders"] (spF K (f_law_filled cl)) :=
  okF F sc_law_filled rfl rfl (by decide) fun cdv A outer s H E hr => ⟨_, (pss_cons (ps_set (i := 4) sc_law_filled.nd rfl (.inl rfl) (pe_lst pa_nil))
      (pss_cons (ps_for PassesOwn.never rfl (pi_any (pv 2)) (pg_name (i := 5) sc_law_filled.nd rfl (.inl rfl))
      (pss_cons (ps_if (pt_not (pt_val (pe_call G_law_bool (hr.mono (by decide)) rfl g_law_bool k_law_bool b_law_bool .nil pass0 (pa_cons (pe_call G_law_given (hr.mono (by decide)) rfl g_law_given k_law_given b_law_given .nil pass0 (pa_cons (pv 0) (pa_cons (pv 5) pa_nil))) (pa_cons (pe_cmpR (op_notInA (hu65 hr)) (pv 5) (pv 4) rfl) pa_nil)))))
      (pss_one (ps_ret pe_bl))
      pss_nil)
      (pss_cons (ps_expr (pe_bm PySem.F.plainAttrs_list PySem.F.slot_list_append PySem.F.type_list_append mt_append (pv 4) (pa_cons (pv 5) pa_nil)))
      (pss_one (ps_if (pt_not (pt_val (pe_call G_law_told (hr.mono (by decide)) rfl g_law_told k_law_told b_law_told .nil pass0 (pa_cons (pv 0) (pa_cons (pv 1) (pa_cons (pv 4) (pa_cons (pv 3) pa_nil)))))))
      (pss_one (ps_ret pe_bl))
      pss_nil)))))
      (pss_one (ps_ret pe_bl)))),
    (rs_seq (rs_asg (ef_lst efa_nil) (by decide))
      (rs_seq (rs_for (ite_any (ef_frz 2)) (rg_n (by decide))
      (rs_seq (rs_if (eft_not (eft_b (ef_call (efa_cons (ef_call (efa_bor 0 (efa_cons (ef_p (pu_var 5)) efa_nil))) (efa_cons (ef_p (pu_op (Pu.c (pu_var 5)) (cu_var 4) notIn_t)) efa_nil)))))
      (rs_ret (ef_p pu_bl))
      rs_next)
      (rs_seq (rs_appV (ef_p (pu_var 5)))
      (rs_if (eft_not (eft_b (ef_call (efa_bor 0 (efa_cons (ef_p (pu_var 1)) (efa_bor 4 (efa_cons (ef_p (pu_var 3)) efa_nil)))))))
      (rs_ret (ef_p pu_bl))
      rs_next))))
      (rs_ret (ef_p pu_bl))))⟩
abbrev s_law : Stmt := topS 19
theorem sc_law : FnScope ["_law_script", "_law_at", "_law_bag_here", "_law_names_here", "_law_order", "_law_senders", "_law_row", "_law_one", "_law_lap", "_law_given_here", "_law_near", "_law_far", "_law_told_here"] ["_law_script"] (defScope s_law) := ⟨rfl, rfl, rfl, by decide +kernel, rfl, by decide +kernel, by decide +kernel⟩
theorem ok_law {f : Addr} {fd : FuncData} (F : Fun K "law" "law" s_law f fd) {f_law_bag_ : Addr} {fd_law_bag : FuncData} {f_law_names_ : Addr} {fd_law_names : FuncData} {f_law_take_ : Addr} {fd_law_take : FuncData} {f_law_of_ : Addr} {fd_law_of : FuncData} {f_Senders_init_ : Addr} {fd_Senders_init : FuncData} {gv_Senders_1_ : List Value → List Value → List Value} {f_law_told_ : Addr} {fd_law_told : FuncData} {f_law_filled_ : Addr} {fd_law_filled : FuncData} {f_Senders_names_ : Addr} {fd_Senders_names : FuncData} {f_law_none_ : Addr} {fd_law_none : FuncData} {f_law_bent_ : Addr} {fd_law_bent : FuncData} {f_is_sender_ : Addr} {fd_is_sender : FuncData} (G_law_bag : FnOk P w K mg base CX0 1 f_law_bag_ fd_law_bag ["_law_script", "_law_at"] (spF K (f_law_bag cl))) (g_law_bag : mg "_law_bag" = some (.ref f_law_bag_)) (k_law_bag : PySem.W.keepIn K (.ref f_law_bag_) = true) (b_law_bag : Binds K fd_law_bag ["_law_script", "_law_at"] []) (G_law_names : FnOk P w K mg base CX0 3 f_law_names_ fd_law_names ["_law_bag_here", "_law_many"] (spF K (f_law_names cl))) (g_law_names : mg "_law_names" = some (.ref f_law_names_)) (k_law_names : PySem.W.keepIn K (.ref f_law_names_) = true) (b_law_names : Binds K fd_law_names ["_law_bag_here", "_law_many"] []) (G_law_take : FnOk P w K mg base CX0 1 f_law_take_ fd_law_take ["_law_bag_here", "_law_many"] (spF K (f_law_take cl))) (g_law_take : mg "_law_take" = some (.ref f_law_take_)) (k_law_take : PySem.W.keepIn K (.ref f_law_take_) = true) (b_law_take : Binds K fd_law_take ["_law_bag_here", "_law_many"] []) (G_law_of : FnOk P w K mg base CX0 2 f_law_of_ fd_law_of ["_law_bag_here", "_law_some_here"] (spF K (f_law_of cl))) (g_law_of : mg "_law_of" = some (.ref f_law_of_)) (k_law_of : PySem.W.keepIn K (.ref f_law_of_) = true) (b_law_of : Binds K fd_law_of ["_law_bag_here", "_law_some_here"] []) (G_Senders_init : FnOk P w K mg base CX0 1 f_Senders_init_ fd_Senders_init ["self", "standings"] (spF K (f_Senders_init cl))) (g_Senders : mg "Senders" = some (.ref (cl 26))) (M_Senders : Mk K (cl 26) f_Senders_init_) (kb_Senders_1_ : KBn K fd_Senders_init ["self", "standings"] 2 [] gv_Senders_1_ (fun vs zs => vs ++ zs)) (G_law_told : FnOk P w K mg base CX0 4 f_law_told_ fd_law_told ["_law_table", "_law_order", "_law_gifts", "_law_senders"] (spF K (f_law_told cl))) (g_law_told : mg "_law_told" = some (.ref f_law_told_)) (k_law_told : PySem.W.keepIn K (.ref f_law_told_) = true) (b_law_told : Binds K fd_law_told ["_law_table", "_law_order", "_law_gifts", "_law_senders"] []) (G_law_filled : FnOk P w K mg base CX0 5 f_law_filled_ fd_law_filled ["_law_table", "_law_order", "_law_row", "_law_senders"] (spF K (f_law_filled cl))) (g_law_filled : mg "_law_filled" = some (.ref f_law_filled_)) (k_law_filled : PySem.W.keepIn K (.ref f_law_filled_) = true) (b_law_filled : Binds K fd_law_filled ["_law_table", "_law_order", "_law_row", "_law_senders"] []) (G_Senders_names : FnOk P w K mg base CX0 1 f_Senders_names_ fd_Senders_names ["self"] (spF K (f_Senders_names cl))) (b_Senders_names : Binds K fd_Senders_names ["self"] []) (c_Senders : Cls K (cl 26)) (mt_Senders_names : Meth K (cl 26) "names" f_Senders_names_) (G_law_none : FnOk P w K mg base CX0 3 f_law_none_ fd_law_none ["_law_things"] (spF K (f_law_none cl))) (g_law_none : mg "_law_none" = some (.ref f_law_none_)) (k_law_none : PySem.W.keepIn K (.ref f_law_none_) = true) (b_law_none : Binds K fd_law_none ["_law_things"] []) (G_law_bent : FnOk P w K mg base CX0 1 f_law_bent_ fd_law_bent ["_law_one"] (spF K (f_law_bent cl))) (g_law_bent : mg "_law_bent" = some (.ref f_law_bent_)) (k_law_bent : PySem.W.keepIn K (.ref f_law_bent_) = true) (b_law_bent : Binds K fd_law_bent ["_law_one"] []) (G_is_sender : FnOk P w K mg base CX0 2 f_is_sender_ fd_is_sender ["thing"] (spF K (f_is_sender cl))) (g_is_sender : mg "is_sender" = some (.ref f_is_sender_)) (k_is_sender : PySem.W.keepIn K (.ref f_is_sender_) = true) (b_is_sender : Binds K fd_is_sender ["thing"] []) (m_len : mg "len" = none) (m_list : mg "list" = none) (m_max : mg "max" = none) (m_min : mg "min" = none) (m_range : mg "range" = none) (m_tuple : mg "tuple" = none) : FnOk P w K mg base CX0 6 f fd ["_law_script"] (spF K (f_law cl)) :=
  okF F sc_law rfl rfl (by decide) fun cdv A outer s H E hr => ⟨_, (pss_cons (ps_for PassesOwn.never rfl (pi_range1 rfl m_range (pa_cons (pe_callB (call_max2 rfl) rfl m_max (by decide +kernel) (pa_cons pe_int (pa_cons (pe_callB (call_min2 rfl) rfl m_min (by decide +kernel) (pa_cons pe_int (pa_cons (pe_callB call_lenA rfl m_len (by decide +kernel) (pa_cons (pv 0) pa_nil)) pa_nil))) pa_nil))) pa_nil)) (pg_name (i := 1) sc_law.nd rfl (.inl rfl))
      (pss_cons (ps_set (i := 2) sc_law.nd rfl (.inl rfl) (pe_call G_law_bag (hr.mono (by decide)) rfl g_law_bag k_law_bag b_law_bag .nil pass0 (pa_cons (pv 0) (pa_cons (pv 1) pa_nil))))
      (pss_cons (ps_set (i := 3) sc_law.nd rfl (.inl rfl) (pe_call G_law_names (hr.mono (by decide)) rfl g_law_names k_law_names b_law_names .nil pass0 (pa_cons (pv 2) (pa_cons pe_int pa_nil))))
      (pss_cons (ps_par3 (i := 4) (j := 5) (l := 6) rfl sc_law.nd rfl rfl rfl (by decide) (by decide) (by decide) rfl rfl rfl (pa_cons (pe_slice sl_any (pv 3) po_none (po_some (pe_op op_addA pe_int (pe_call G_law_take (hr.mono (by decide)) rfl g_law_take k_law_take b_law_take .nil pass0 (pa_cons (pv 2) (pa_cons pe_int pa_nil)))))) (pa_cons (pe_lst pa_nil) (pa_cons (pe_lst pa_nil) pa_nil))) rfl)
      (pss_cons (ps_if (pt_cmpR (op_eqA (hu64 hr)) (pe_call G_law_take (hr.mono (by decide)) rfl g_law_take k_law_take b_law_take .nil pass0 (pa_cons (pv 2) (pa_cons pe_int pa_nil))) pe_int (nomark _))
      (pss_one (ps_set (i := 4) sc_law.nd rfl (.inl rfl) (pe_revL (pv 4))))
      pss_nil)
      (pss_cons (ps_for PassesOwn.never rfl (pi_any (pe_slice sl_any (pv 3) po_none (po_some pe_int))) (pg_name (i := 7) sc_law.nd rfl (.inl rfl))
      (pss_one (ps_set (i := 5) sc_law.nd rfl (.inl rfl) (pe_op op_addA (pv 5) (pe_lst (pa_cons (pe_op op_addA (pe_op op_addA (pv 7) pe_str) (pe_ix ix_seq (pv 3) pe_int (fun _ _ => rfl))) (pa_cons (pe_op op_addA (pe_op op_addA (pv 7) pe_str) (pe_ix ix_seq (pv 3) pe_int (fun _ _ => rfl))) pa_nil)))))))
      (pss_cons (ps_for PassesOwn.never rfl (pi_range1 rfl m_range (pa_cons (pe_call G_law_take (hr.mono (by decide)) rfl g_law_take k_law_take b_law_take .nil pass0 (pa_cons (pv 2) (pa_cons pe_int pa_nil))) pa_nil)) (pg_name (i := 8) sc_law.nd rfl (.inl rfl))
      (pss_one (ps_expr (pe_bm PySem.F.plainAttrs_list PySem.F.slot_list_append PySem.F.type_list_append mt_append (pv 6) (pa_cons (pe_tup (pa_cons (pe_call G_law_of (hr.mono (by decide)) rfl g_law_of k_law_of b_law_of .nil pass0 (pa_cons (pv 2) (pa_cons (pv 5) pa_nil))) (pa_cons (pe_call G_law_of (hr.mono (by decide)) rfl g_law_of k_law_of b_law_of .nil pass0 (pa_cons (pv 2) (pa_cons (pv 4) pa_nil))) (pa_cons (pe_cmpR (op_eqA (hu64 hr)) (pe_call G_law_take (hr.mono (by decide)) rfl g_law_take k_law_take b_law_take .nil pass0 (pa_cons (pv 2) (pa_cons pe_int pa_nil))) pe_int (nomark _)) pa_nil)))) pa_nil)))))
      (pss_cons (ps_set (i := 9) sc_law.nd rfl (.inl rfl) (pe_callTy call_list_of rfl m_list (by decide +kernel) (pa_cons (pv 4) pa_nil)))
      (pss_cons (ps_par (i := 10) (j := 11) rfl sc_law.nd rfl rfl (by decide) rfl rfl (pa_cons (pe_makeK M_Senders G_Senders_init (hr.mono (by decide)) rfl g_Senders kb_Senders_1_ pass0 (pa_cons (pv 9) pa_nil) pk_nil) (pa_cons (pe_makeK M_Senders G_Senders_init (hr.mono (by decide)) rfl g_Senders kb_Senders_1_ pass0 (pa_cons (pe_callTy call_tuple_of rfl m_tuple (by decide +kernel) (pa_cons (pv 4) pa_nil)) pa_nil) pk_nil) pa_nil)) rfl)
      (pss_cons (ps_expr (pe_bm0 PySem.F.plainAttrs_list PySem.F.slot_list_reverse PySem.F.type_list_reverse mt_reverse (pv 9)))
      (pss_cons (ps_if (PW.pt (pw_or (pt_not (pt_val (pe_call G_law_filled (hr.mono (by decide)) rfl g_law_filled k_law_filled b_law_filled .nil pass0 (pa_cons (pv 10) (pa_cons (pv 4) (pa_cons (pv 6) (pa_cons (pv 5) pa_nil))))))) (pw_or1 (pt_not (pt_val (pe_call G_law_told (hr.mono (by decide)) rfl g_law_told k_law_told b_law_told .nil pass0 (pa_cons (pv 11) (pa_cons (pv 4) (pa_cons (pe_lst pa_nil) (pa_cons (pv 5) pa_nil))))))))))
      (pss_one (ps_ret pe_bl))
      pss_nil)
      (pss_cons (ps_if (pt_not (pt_val (pe_call G_law_filled (hr.mono (by decide)) rfl g_law_filled k_law_filled b_law_filled .nil pass0 (pa_cons (pv 11) (pa_cons (pv 4) (pa_cons (pe_revL (pv 6)) (pa_cons (pv 5) pa_nil)))))))
      (pss_one (ps_ret pe_bl))
      pss_nil)
      (pss_cons (ps_set (i := 12) sc_law.nd rfl (.inl rfl) (pe_meth0 (pv 10) c_Senders mt_Senders_names G_Senders_names (hr.mono (by decide)) b_Senders_names .nil pass0))
      (pss_cons (ps_expr (pe_bm PySem.F.plainAttrs_list PySem.F.slot_list_append PySem.F.type_list_append mt_append (pv 12) (pa_cons pe_str pa_nil)))
      (pss_cons (ps_if (PW.pt (pw_or (pt_not (pt_val (pe_call G_law_told (hr.mono (by decide)) rfl g_law_told k_law_told b_law_told .nil pass0 (pa_cons (pv 10) (pa_cons (pv 4) (pa_cons (pv 6) (pa_cons (pv 5) pa_nil))))))) (pw_or1 (pt_not (pt_val (pe_call G_law_told (hr.mono (by decide)) rfl g_law_told k_law_told b_law_told .nil pass0 (pa_cons (pv 11) (pa_cons (pv 4) (pa_cons (pv 6) (pa_cons (pv 5) pa_nil))))))))))
      (pss_one (ps_ret pe_bl))
      pss_nil)
      (pss_one (ps_if (pt_cmpR (op_neA (hu64 hr)) (pe_lc (own := [("_law_one", 7)])  rfl sc_law.nd (pi_any (pv 5)) (blkOk_by (N := ["_law_script", "_law_at", "_law_bag_here", "_law_names_here", "_law_order", "_law_senders", "_law_row", "_law_one", "_law_lap", "_law_given_here", "_law_near", "_law_far", "_law_told_here"]) (sc := defScope s_law) (by decide +kernel)) (fun _ _ _ _ _ => (pg_name (i := 7) sc_law.nd rfl (.inl rfl))) (fun _ _ _ _ _ => (pts_one (PW.pt (pw_or (pt_cmpR op_isnot_bl (pe_call G_is_sender (hr.mono (by decide)) rfl g_is_sender k_is_sender b_is_sender .nil pass0 (pa_cons (pv 7) pa_nil)) pe_bl (nomark _)) (pw_or1 (pt_not (pt_val (pe_call G_law_none (hr.mono (by decide)) rfl g_law_none k_law_none b_law_none .nil pass0 (pa_cons (pe_call G_law_bent (hr.mono (by decide)) rfl g_law_bent k_law_bent b_law_bent .nil pass0 (pa_cons (pv 7) pa_nil)) pa_nil))))))))) (fun _ _ _ _ _ => (pv 7))) (pe_lst pa_nil) (nomark _))
      (pss_one (ps_ret pe_bl))
      pss_nil)))))))))))))))))
      (pss_cons (ps_if (PW.pt (pw_or (pt_cmpR op_isnot_bl (pe_call G_is_sender (hr.mono (by decide)) rfl g_is_sender k_is_sender b_is_sender .nil pass0 (pa_cons pe_str pa_nil)) pe_bl (nomark _)) (pw_or1 (pt_cmpR op_isnot_bl (pe_call G_is_sender (hr.mono (by decide)) rfl g_is_sender k_is_sender b_is_sender .nil pass0 (pa_cons pe_str pa_nil)) pe_bl (nomark _)))))
      (pss_one (ps_ret pe_bl))
      pss_nil)
      (pss_one (ps_ret (pe_call G_law_none (hr.mono (by decide)) rfl g_law_none k_law_none b_law_none .nil pass0 (pa_cons (pe_lst (pa_cons pe_str (pa_cons pe_str (pa_cons pe_str (pa_cons pe_str (pa_cons pe_str (pa_cons pe_non (pa_cons pe_int (pa_cons pe_bl pa_nil))))))))) pa_nil)))))),
    (rs_seq (rs_for (ite_p (its_rng1 (fz := true) (pu_call2 (Pu.c pu_int) (Pu.c (pu_call2 (Pu.c pu_int) (Pu.c (pu_call1 (Pu.c (pu_var 0)) len_t)) min2_t)) max2_t))) (rg_n (by decide))
      (rs_seq (rs_asg (ef_call (efa_cons (ef_p (pu_var 0)) (efa_cons (ef_p (pu_var 1)) efa_nil))) (by decide))
      (rs_seq (rs_asgD (ef_call (efa_bor 2 (efa_cons (ef_p pu_int) efa_nil))) (by decide))
      (rs_seq (rs_par3 (efa_cons (ef_d (ef_slH (efa_cons (ef_p (pu_var 3)) (efa_cons (ef_op (efa_cons (ef_p pu_int) (efa_cons (ef_call (efa_bor 2 (efa_cons (ef_p pu_int) efa_nil))) efa_nil)) add_t) efa_nil)))) (efa_cons (ef_p (pu_lst pa_nil_)) (efa_cons (ef_lst efa_nil) efa_nil))) rfl (by decide) (by decide) (by decide) (by decide) (by decide) (by decide))
      (rs_seq (rs_if (eft_test (ef_op (efa_cons (ef_call (efa_bor 2 (efa_cons (ef_p pu_int) efa_nil))) (efa_cons (ef_p pu_int) efa_nil)) eq_t))
      (rs_asgD (ef_p (pu_rev (Pu.c (pu_var 4)))) (by decide))
      rs_next)
      (rs_seq (rs_for (ite_p (its_any (fz := true) (pu_sl (Pu.c (pu_var 3)) puo_none (puo_some pu_int) sl_t))) (rg_n (by decide))
      (rs_asgD (ef_p (pu_op (Pu.c (pu_var 5)) (Pu.c (pu_lst (pa_cons_ (pu_op (Pu.c (pu_op (Pu.c (pu_var 7)) (Pu.c pu_str) add_t)) (Pu.c (pu_op (Pu.c (pu_var 3)) (Pu.c pu_int) ix_t)) add_t) (pa_cons_ (pu_op (Pu.c (pu_op (Pu.c (pu_var 7)) (Pu.c pu_str) add_t)) (Pu.c (pu_op (Pu.c (pu_var 3)) (Pu.c pu_int) ix_t)) add_t) pa_nil_)))) add_t)) (by decide)))
      (rs_seq (rs_for (ite_rng1 (ef_call (efa_bor 2 (efa_cons (ef_p pu_int) efa_nil)))) (rg_n (by decide))
      (rs_appV (ef_tup (efa_cons (ef_call (efa_bor 2 (efa_cons (ef_p (pu_var 5)) efa_nil))) (efa_cons (ef_call (efa_bor 2 (efa_cons (ef_p (pu_var 4)) efa_nil))) (efa_cons (ef_op (efa_cons (ef_call (efa_bor 2 (efa_cons (ef_p pu_int) efa_nil))) (efa_cons (ef_p pu_int) efa_nil)) eq_t) efa_nil))))))
      (rs_seq (rs_asg (ef_list (Pu.c (pu_var 4))) (by decide))
      (rs_seq (rs_par (efa_cons (ef_makeK (P := [none]) (l1 := [tVar 9]) (l2 := []) (fun I q hq => by simp at hq) (efa_bor 9 efa_nil) rfl rfl rfl (fun x vs zs h1 h2 => by exact match vs, zs, h1, h2 with | [_], [], _, _ => rfl)) (efa_cons (ef_makeK (P := [none]) (l1 := [_]) (l2 := []) (fun I q hq => by simp at hq) (efa_cons (ef_p (pu_call1 (Pu.c (pu_var 4)) tuple_t)) efa_nil) rfl rfl rfl (fun x vs zs h1 h2 => by exact match vs, zs, h1, h2 with | [_], [], _, _ => rfl)) efa_nil)) rfl (by decide) (by decide) (by decide))
      (rs_seq rs_revV
      (rs_seq (rs_if (eft_or (eft_not (eft_b (ef_call (efa_bor 10 (efa_cons (ef_p (pu_var 4)) (efa_bor 6 (efa_cons (ef_p (pu_var 5)) efa_nil))))))) (eft_p (put_with 11 (put_not (put_b (pu_call (pa_cons_ (pu_var 11) (pa_cons_ (pu_var 4) (pa_cons_ (pu_lst pa_nil_) (pa_cons_ (pu_var 5) pa_nil_))))))))))
      (rs_ret (ef_p pu_bl))
      rs_next)
      (rs_seq (rs_if (eft_not (eft_b (ef_call (efa_bor 11 (efa_cons (ef_p (pu_var 4)) (efa_cons (ef_p (pu_rev (cu_var 6))) (efa_cons (ef_p (pu_var 5)) efa_nil)))))))
      (rs_ret (ef_p pu_bl))
      rs_next)
      (rs_seq (rs_asg (ef_fu (fu_with 10 (fu_meth (by decide) (pu_var 10) pa_nil_))) (by decide))
      (rs_seq (rs_appV (ef_p pu_str))
      (rs_seq (rs_if (eft_or (eft_not (eft_b (ef_call (efa_bor 10 (efa_cons (ef_p (pu_var 4)) (efa_bor 6 (efa_cons (ef_p (pu_var 5)) efa_nil))))))) (eft_not (eft_b (ef_call (efa_bor 11 (efa_cons (ef_p (pu_var 4)) (efa_bor 6 (efa_cons (ef_p (pu_var 5)) efa_nil))))))))
      (rs_ret (ef_p pu_bl))
      rs_next)
      (rs_if (eft_p (put_test (pu_op (Pu.c (pu_lcW (its_any (fz := true) (pu_var 5)) (rg_n (by decide)) (put_or (put_test (pu_op (Pu.c (pu_call (pa_cons_ (pu_var 7) pa_nil_))) (Pu.c pu_bl) notB_t)) (put_not (put_b (pu_call (pa_cons_ (pu_call (pa_cons_ (pu_var 7) pa_nil_)) pa_nil_))))) (pu_var 7))) (Pu.c (pu_lst pa_nil_)) ne_t)))
      (rs_ret (ef_p pu_bl))
      rs_next))))))))))))))))
      (rs_seq (rs_if (eft_p (put_or (put_test (pu_op (Pu.c (pu_call (pa_cons_ pu_str pa_nil_))) (Pu.c pu_bl) notB_t)) (put_test (pu_op (Pu.c (pu_call (pa_cons_ pu_str pa_nil_))) (Pu.c pu_bl) notB_t))))
      (rs_ret (ef_p pu_bl))
      rs_next)
      (rs_ret (ef_call (efa_cons (ef_p (pu_lst (pa_cons_ pu_str (pa_cons_ pu_str (pa_cons_ pu_str (pa_cons_ pu_str (pa_cons_ pu_str (pa_cons_ pu_non (pa_cons_ pu_int (pa_cons_ pu_bl pa_nil_)))))))))) efa_nil)))))⟩
end
end G21
namespace G21
open PySem PySem.Spec PyProof.Rows L2 FD G01
set_option maxHeartbeats 0 in
theorem all_mk {l : PySem.W.OpenLaw} {w : PySem.World} {K : PySem.W.Frag} {h : Heap} {mg : Str → Option Value} {fa C26 f_is_name_ f_those_in_ f_is_sender_ f_Senders_init_ kd_Senders_give f_Senders_give_ f_Senders_standings_of_ f_Senders_by_hand_ f_Senders_names_ f_Senders_contains_ f_Senders_len_ f_law_bag_ f_law_take_ f_law_of_ f_law_names_ f_law_told_ f_law_given_ f_law_bool_ f_law_bent_ f_law_none_ f_law_filled_ f_law_ : Addr} (X : K.In h) (G : h.Ns mainGlobals mg) (hfa : mg "law" = some (.ref fa))
    {od_is_name an_is_name : Option Addr} {sl_is_name : Array (Option Value)} {oc_is_name kV_is_name dc_is_name pm_is_name cd_is_name ct_is_name : Value} {od_those_in an_those_in : Option Addr} {sl_those_in : Array (Option Value)} {oc_those_in kV_those_in dc_those_in pm_those_in cd_those_in ct_those_in : Value} {od_is_sender an_is_sender : Option Addr} {sl_is_sender : Array (Option Value)} {oc_is_sender kV_is_sender dc_is_sender pm_is_sender cd_is_sender ct_is_sender : Value} {od_Senders_init an_Senders_init : Option Addr} {sl_Senders_init : Array (Option Value)} {oc_Senders_init kV_Senders_init dc_Senders_init pm_Senders_init cd_Senders_init ct_Senders_init : Value} {od_Senders_give an_Senders_give : Option Addr} {sl_Senders_give : Array (Option Value)} {oc_Senders_give  dc_Senders_give pm_Senders_give cd_Senders_give ct_Senders_give : Value} {od_Senders_standings_of an_Senders_standings_of : Option Addr} {sl_Senders_standings_of : Array (Option Value)} {oc_Senders_standings_of kV_Senders_standings_of dc_Senders_standings_of pm_Senders_standings_of cd_Senders_standings_of ct_Senders_standings_of : Value} {od_Senders_by_hand an_Senders_by_hand : Option Addr} {sl_Senders_by_hand : Array (Option Value)} {oc_Senders_by_hand kV_Senders_by_hand dc_Senders_by_hand pm_Senders_by_hand cd_Senders_by_hand ct_Senders_by_hand : Value} {od_Senders_names an_Senders_names : Option Addr} {sl_Senders_names : Array (Option Value)} {oc_Senders_names kV_Senders_names dc_Senders_names pm_Senders_names cd_Senders_names ct_Senders_names : Value} {od_Senders_contains an_Senders_contains : Option Addr} {sl_Senders_contains : Array (Option Value)} {oc_Senders_contains kV_Senders_contains dc_Senders_contains pm_Senders_contains cd_Senders_contains ct_Senders_contains : Value} {od_Senders_len an_Senders_len : Option Addr} {sl_Senders_len : Array (Option Value)} {oc_Senders_len kV_Senders_len dc_Senders_len pm_Senders_len cd_Senders_len ct_Senders_len : Value} {od_law_bag an_law_bag : Option Addr} {sl_law_bag : Array (Option Value)} {oc_law_bag kV_law_bag dc_law_bag pm_law_bag cd_law_bag ct_law_bag : Value} {od_law_take an_law_take : Option Addr} {sl_law_take : Array (Option Value)} {oc_law_take kV_law_take dc_law_take pm_law_take cd_law_take ct_law_take : Value} {od_law_of an_law_of : Option Addr} {sl_law_of : Array (Option Value)} {oc_law_of kV_law_of dc_law_of pm_law_of cd_law_of ct_law_of : Value} {od_law_names an_law_names : Option Addr} {sl_law_names : Array (Option Value)} {oc_law_names kV_law_names dc_law_names pm_law_names cd_law_names ct_law_names : Value} {od_law_told an_law_told : Option Addr} {sl_law_told : Array (Option Value)} {oc_law_told kV_law_told dc_law_told pm_law_told cd_law_told ct_law_told : Value} {od_law_given an_law_given : Option Addr} {sl_law_given : Array (Option Value)} {oc_law_given kV_law_given dc_law_given pm_law_given cd_law_given ct_law_given : Value} {od_law_bool an_law_bool : Option Addr} {sl_law_bool : Array (Option Value)} {oc_law_bool kV_law_bool dc_law_bool pm_law_bool cd_law_bool ct_law_bool : Value} {od_law_bent an_law_bent : Option Addr} {sl_law_bent : Array (Option Value)} {oc_law_bent kV_law_bent dc_law_bent pm_law_bent cd_law_bent ct_law_bent : Value} {od_law_none an_law_none : Option Addr} {sl_law_none : Array (Option Value)} {oc_law_none kV_law_none dc_law_none pm_law_none cd_law_none ct_law_none : Value} {od_law_filled an_law_filled : Option Addr} {sl_law_filled : Array (Option Value)} {oc_law_filled kV_law_filled dc_law_filled pm_law_filled cd_law_filled ct_law_filled : Value} {od_law an_law : Option Addr} {sl_law : Array (Option Value)} {oc_law kV_law dc_law pm_law cd_law ct_law : Value} {t_LONGEST_NAME : Tok}
    (aC_Senders : PySem.W.nsIn K mainGlobals "Senders" = some (some (.ref C26)))
    (a_is_name : PySem.W.nsIn K mainGlobals "is_name" = some (some (.ref f_is_name_)))
    (l_is_name : K.lookup f_is_name_ = some ⟨oc_is_name, od_is_name, .func (PySem.W.fnOf "is_name" "is_name" (defArgs s_is_name) (defBody s_is_name) (defScope s_is_name) .none kV_is_name dc_is_name pm_is_name an_is_name cd_is_name ct_is_name), sl_is_name⟩)
    (cd_in_is_name : PySem.W.codeIn K cd_is_name "is_name" = true)
    (kp_is_name : PySem.W.keepIn K (.ref f_is_name_) = true)
    (a_those_in : PySem.W.nsIn K mainGlobals "those_in" = some (some (.ref f_those_in_)))
    (l_those_in : K.lookup f_those_in_ = some ⟨oc_those_in, od_those_in, .func (PySem.W.fnOf "those_in" "those_in" (defArgs s_those_in) (defBody s_those_in) (defScope s_those_in) .none kV_those_in dc_those_in pm_those_in an_those_in cd_those_in ct_those_in), sl_those_in⟩)
    (cd_in_those_in : PySem.W.codeIn K cd_those_in "those_in" = true)
    (kp_those_in : PySem.W.keepIn K (.ref f_those_in_) = true)
    (a_is_sender : PySem.W.nsIn K mainGlobals "is_sender" = some (some (.ref f_is_sender_)))
    (l_is_sender : K.lookup f_is_sender_ = some ⟨oc_is_sender, od_is_sender, .func (PySem.W.fnOf "is_sender" "is_sender" (defArgs s_is_sender) (defBody s_is_sender) (defScope s_is_sender) .none kV_is_sender dc_is_sender pm_is_sender an_is_sender cd_is_sender ct_is_sender), sl_is_sender⟩)
    (cd_in_is_sender : PySem.W.codeIn K cd_is_sender "is_sender" = true)
    (kp_is_sender : PySem.W.keepIn K (.ref f_is_sender_) = true)
    (a_Senders_init : PySem.W.findIn K (.ref C26) "__init__" = some (some (.ref f_Senders_init_)))
    (i_Senders_init : PySem.W.isFn K (.ref f_Senders_init_) = true)
    (l_Senders_init : K.lookup f_Senders_init_ = some ⟨oc_Senders_init, od_Senders_init, .func (PySem.W.fnOf "__init__" "Senders.__init__" (defArgs s_Senders_init) (defBody s_Senders_init) (defScope s_Senders_init) .none kV_Senders_init dc_Senders_init pm_Senders_init an_Senders_init cd_Senders_init ct_Senders_init), sl_Senders_init⟩)
    (cd_in_Senders_init : PySem.W.codeIn K cd_Senders_init "Senders.__init__" = true)
    (kp_Senders_init : PySem.W.keepIn K (.ref f_Senders_init_) = true)
    (a_Senders_give : PySem.W.findIn K (.ref C26) "give" = some (some (.ref f_Senders_give_)))
    (i_Senders_give : PySem.W.isFn K (.ref f_Senders_give_) = true)
    (l_Senders_give : K.lookup f_Senders_give_ = some ⟨oc_Senders_give, od_Senders_give, .func (PySem.W.fnOf "give" "Senders.give" (defArgs s_Senders_give) (defBody s_Senders_give) (defScope s_Senders_give) .none (.ref kd_Senders_give) dc_Senders_give pm_Senders_give an_Senders_give cd_Senders_give ct_Senders_give), sl_Senders_give⟩)
    (cd_in_Senders_give : PySem.W.codeIn K cd_Senders_give "Senders.give" = true)
    (kp_Senders_give : PySem.W.keepIn K (.ref f_Senders_give_) = true)
    (ns_Senders_give_by_hand : PySem.W.nsIn K kd_Senders_give "by_hand" = some (some (.bool false)))
    (a_Senders_standings_of : PySem.W.findIn K (.ref C26) "standings_of" = some (some (.ref f_Senders_standings_of_)))
    (i_Senders_standings_of : PySem.W.isFn K (.ref f_Senders_standings_of_) = true)
    (l_Senders_standings_of : K.lookup f_Senders_standings_of_ = some ⟨oc_Senders_standings_of, od_Senders_standings_of, .func (PySem.W.fnOf "standings_of" "Senders.standings_of" (defArgs s_Senders_standings_of) (defBody s_Senders_standings_of) (defScope s_Senders_standings_of) .none kV_Senders_standings_of dc_Senders_standings_of pm_Senders_standings_of an_Senders_standings_of cd_Senders_standings_of ct_Senders_standings_of), sl_Senders_standings_of⟩)
    (cd_in_Senders_standings_of : PySem.W.codeIn K cd_Senders_standings_of "Senders.standings_of" = true)
    (kp_Senders_standings_of : PySem.W.keepIn K (.ref f_Senders_standings_of_) = true)
    (a_Senders_by_hand : PySem.W.findIn K (.ref C26) "by_hand" = some (some (.ref f_Senders_by_hand_)))
    (i_Senders_by_hand : PySem.W.isFn K (.ref f_Senders_by_hand_) = true)
    (l_Senders_by_hand : K.lookup f_Senders_by_hand_ = some ⟨oc_Senders_by_hand, od_Senders_by_hand, .func (PySem.W.fnOf "by_hand" "Senders.by_hand" (defArgs s_Senders_by_hand) (defBody s_Senders_by_hand) (defScope s_Senders_by_hand) .none kV_Senders_by_hand dc_Senders_by_hand pm_Senders_by_hand an_Senders_by_hand cd_Senders_by_hand ct_Senders_by_hand), sl_Senders_by_hand⟩)
    (cd_in_Senders_by_hand : PySem.W.codeIn K cd_Senders_by_hand "Senders.by_hand" = true)
    (kp_Senders_by_hand : PySem.W.keepIn K (.ref f_Senders_by_hand_) = true)
    (a_Senders_names : PySem.W.findIn K (.ref C26) "names" = some (some (.ref f_Senders_names_)))
    (i_Senders_names : PySem.W.isFn K (.ref f_Senders_names_) = true)
    (l_Senders_names : K.lookup f_Senders_names_ = some ⟨oc_Senders_names, od_Senders_names, .func (PySem.W.fnOf "names" "Senders.names" (defArgs s_Senders_names) (defBody s_Senders_names) (defScope s_Senders_names) .none kV_Senders_names dc_Senders_names pm_Senders_names an_Senders_names cd_Senders_names ct_Senders_names), sl_Senders_names⟩)
    (cd_in_Senders_names : PySem.W.codeIn K cd_Senders_names "Senders.names" = true)
    (kp_Senders_names : PySem.W.keepIn K (.ref f_Senders_names_) = true)
    (a_Senders_contains : PySem.W.findIn K (.ref C26) "__contains__" = some (some (.ref f_Senders_contains_)))
    (i_Senders_contains : PySem.W.isFn K (.ref f_Senders_contains_) = true)
    (l_Senders_contains : K.lookup f_Senders_contains_ = some ⟨oc_Senders_contains, od_Senders_contains, .func (PySem.W.fnOf "__contains__" "Senders.__contains__" (defArgs s_Senders_contains) (defBody s_Senders_contains) (defScope s_Senders_contains) .none kV_Senders_contains dc_Senders_contains pm_Senders_contains an_Senders_contains cd_Senders_contains ct_Senders_contains), sl_Senders_contains⟩)
    (cd_in_Senders_contains : PySem.W.codeIn K cd_Senders_contains "Senders.__contains__" = true)
    (kp_Senders_contains : PySem.W.keepIn K (.ref f_Senders_contains_) = true)
    (a_Senders_len : PySem.W.findIn K (.ref C26) "__len__" = some (some (.ref f_Senders_len_)))
    (i_Senders_len : PySem.W.isFn K (.ref f_Senders_len_) = true)
    (l_Senders_len : K.lookup f_Senders_len_ = some ⟨oc_Senders_len, od_Senders_len, .func (PySem.W.fnOf "__len__" "Senders.__len__" (defArgs s_Senders_len) (defBody s_Senders_len) (defScope s_Senders_len) .none kV_Senders_len dc_Senders_len pm_Senders_len an_Senders_len cd_Senders_len ct_Senders_len), sl_Senders_len⟩)
    (cd_in_Senders_len : PySem.W.codeIn K cd_Senders_len "Senders.__len__" = true)
    (kp_Senders_len : PySem.W.keepIn K (.ref f_Senders_len_) = true)
    (a_law_bag : PySem.W.nsIn K mainGlobals "_law_bag" = some (some (.ref f_law_bag_)))
    (l_law_bag : K.lookup f_law_bag_ = some ⟨oc_law_bag, od_law_bag, .func (PySem.W.fnOf "_law_bag" "_law_bag" (defArgs s_law_bag) (defBody s_law_bag) (defScope s_law_bag) .none kV_law_bag dc_law_bag pm_law_bag an_law_bag cd_law_bag ct_law_bag), sl_law_bag⟩)
    (cd_in_law_bag : PySem.W.codeIn K cd_law_bag "_law_bag" = true)
    (kp_law_bag : PySem.W.keepIn K (.ref f_law_bag_) = true)
    (a_law_take : PySem.W.nsIn K mainGlobals "_law_take" = some (some (.ref f_law_take_)))
    (l_law_take : K.lookup f_law_take_ = some ⟨oc_law_take, od_law_take, .func (PySem.W.fnOf "_law_take" "_law_take" (defArgs s_law_take) (defBody s_law_take) (defScope s_law_take) .none kV_law_take dc_law_take pm_law_take an_law_take cd_law_take ct_law_take), sl_law_take⟩)
    (cd_in_law_take : PySem.W.codeIn K cd_law_take "_law_take" = true)
    (kp_law_take : PySem.W.keepIn K (.ref f_law_take_) = true)
    (a_law_of : PySem.W.nsIn K mainGlobals "_law_of" = some (some (.ref f_law_of_)))
    (l_law_of : K.lookup f_law_of_ = some ⟨oc_law_of, od_law_of, .func (PySem.W.fnOf "_law_of" "_law_of" (defArgs s_law_of) (defBody s_law_of) (defScope s_law_of) .none kV_law_of dc_law_of pm_law_of an_law_of cd_law_of ct_law_of), sl_law_of⟩)
    (cd_in_law_of : PySem.W.codeIn K cd_law_of "_law_of" = true)
    (kp_law_of : PySem.W.keepIn K (.ref f_law_of_) = true)
    (a_law_names : PySem.W.nsIn K mainGlobals "_law_names" = some (some (.ref f_law_names_)))
    (l_law_names : K.lookup f_law_names_ = some ⟨oc_law_names, od_law_names, .func (PySem.W.fnOf "_law_names" "_law_names" (defArgs s_law_names) (defBody s_law_names) (defScope s_law_names) .none kV_law_names dc_law_names pm_law_names an_law_names cd_law_names ct_law_names), sl_law_names⟩)
    (cd_in_law_names : PySem.W.codeIn K cd_law_names "_law_names" = true)
    (kp_law_names : PySem.W.keepIn K (.ref f_law_names_) = true)
    (a_law_told : PySem.W.nsIn K mainGlobals "_law_told" = some (some (.ref f_law_told_)))
    (l_law_told : K.lookup f_law_told_ = some ⟨oc_law_told, od_law_told, .func (PySem.W.fnOf "_law_told" "_law_told" (defArgs s_law_told) (defBody s_law_told) (defScope s_law_told) .none kV_law_told dc_law_told pm_law_told an_law_told cd_law_told ct_law_told), sl_law_told⟩)
    (cd_in_law_told : PySem.W.codeIn K cd_law_told "_law_told" = true)
    (kp_law_told : PySem.W.keepIn K (.ref f_law_told_) = true)
    (a_law_given : PySem.W.nsIn K mainGlobals "_law_given" = some (some (.ref f_law_given_)))
    (l_law_given : K.lookup f_law_given_ = some ⟨oc_law_given, od_law_given, .func (PySem.W.fnOf "_law_given" "_law_given" (defArgs s_law_given) (defBody s_law_given) (defScope s_law_given) .none kV_law_given dc_law_given pm_law_given an_law_given cd_law_given ct_law_given), sl_law_given⟩)
    (cd_in_law_given : PySem.W.codeIn K cd_law_given "_law_given" = true)
    (kp_law_given : PySem.W.keepIn K (.ref f_law_given_) = true)
    (a_law_bool : PySem.W.nsIn K mainGlobals "_law_bool" = some (some (.ref f_law_bool_)))
    (l_law_bool : K.lookup f_law_bool_ = some ⟨oc_law_bool, od_law_bool, .func (PySem.W.fnOf "_law_bool" "_law_bool" (defArgs s_law_bool) (defBody s_law_bool) (defScope s_law_bool) .none kV_law_bool dc_law_bool pm_law_bool an_law_bool cd_law_bool ct_law_bool), sl_law_bool⟩)
    (cd_in_law_bool : PySem.W.codeIn K cd_law_bool "_law_bool" = true)
    (kp_law_bool : PySem.W.keepIn K (.ref f_law_bool_) = true)
    (a_law_bent : PySem.W.nsIn K mainGlobals "_law_bent" = some (some (.ref f_law_bent_)))
    (l_law_bent : K.lookup f_law_bent_ = some ⟨oc_law_bent, od_law_bent, .func (PySem.W.fnOf "_law_bent" "_law_bent" (defArgs s_law_bent) (defBody s_law_bent) (defScope s_law_bent) .none kV_law_bent dc_law_bent pm_law_bent an_law_bent cd_law_bent ct_law_bent), sl_law_bent⟩)
    (cd_in_law_bent : PySem.W.codeIn K cd_law_bent "_law_bent" = true)
    (kp_law_bent : PySem.W.keepIn K (.ref f_law_bent_) = true)
    (a_law_none : PySem.W.nsIn K mainGlobals "_law_none" = some (some (.ref f_law_none_)))
    (l_law_none : K.lookup f_law_none_ = some ⟨oc_law_none, od_law_none, .func (PySem.W.fnOf "_law_none" "_law_none" (defArgs s_law_none) (defBody s_law_none) (defScope s_law_none) .none kV_law_none dc_law_none pm_law_none an_law_none cd_law_none ct_law_none), sl_law_none⟩)
    (cd_in_law_none : PySem.W.codeIn K cd_law_none "_law_none" = true)
    (kp_law_none : PySem.W.keepIn K (.ref f_law_none_) = true)
    (a_law_filled : PySem.W.nsIn K mainGlobals "_law_filled" = some (some (.ref f_law_filled_)))
    (l_law_filled : K.lookup f_law_filled_ = some ⟨oc_law_filled, od_law_filled, .func (PySem.W.fnOf "_law_filled" "_law_filled" (defArgs s_law_filled) (defBody s_law_filled) (defScope s_law_filled) .none kV_law_filled dc_law_filled pm_law_filled an_law_filled cd_law_filled ct_law_filled), sl_law_filled⟩)
    (cd_in_law_filled : PySem.W.codeIn K cd_law_filled "_law_filled" = true)
    (kp_law_filled : PySem.W.keepIn K (.ref f_law_filled_) = true)
    (a_law : PySem.W.nsIn K mainGlobals "law" = some (some (.ref f_law_)))
    (l_law : K.lookup f_law_ = some ⟨oc_law, od_law, .func (PySem.W.fnOf "law" "law" (defArgs s_law) (defBody s_law) (defScope s_law) .none kV_law dc_law pm_law an_law cd_law ct_law), sl_law⟩)
    (cd_in_law : PySem.W.codeIn K cd_law "law" = true)
    (kp_law : PySem.W.keepIn K (.ref f_law_) = true)
    (pg_Senders : PySem.W.plainGet K C26 Str.empty = true)
    (hd_Senders : PySem.W.hasDictIn K C26 = true)
    (po_Senders : PySem.W.plainOver K C26 = true)
    (sa_Senders : PySem.W.findIn K (.ref C26) "__setattr__" = some (some (.builtin "object.__setattr__")))
    (nf_Senders__standings : PySem.W.findIn K (.ref C26) "_standings" = some none)
    (nf_Senders__by_hand : PySem.W.findIn K (.ref C26) "_by_hand" = some none)
    (nf_Senders__by_stamps : PySem.W.findIn K (.ref C26) "_by_stamps" = some none)
    (mk_Senders : PySem.W.makesIn K C26 = true)
    (kc_Senders : PySem.W.keepIn K (.ref C26) = true)
    (ca_Senders : PySem.W.findIn K (.ref C26) "__class__" = some (some (.builtin "object.__class__")))
    (ct_Senders : PySem.W.takesIn K (.builtin "object.__class__") = some true)
    (cm_Senders : PySem.W.mroIn K C26 (.type "object") = some true)
    (ic_Senders : PySem.W.isClsIn K C26 = true)
    (ty_Senders : PySem.W.typeIn K (.ref C26) = some (.type "type"))
    (cn_Senders : PySem.W.specialIn K (.builtin "object.__class__") "__get__" = some (some (.builtin "getset_descriptor.__get__")))
    (z_all : PySem.W.nsIn K mainGlobals "all" = some none)
    (z_isinstance : PySem.W.nsIn K mainGlobals "isinstance" = some none)
    (z_len : PySem.W.nsIn K mainGlobals "len" = some none)
    (z_str : PySem.W.nsIn K mainGlobals "str" = some none)
    (v_LONGEST_NAME : PySem.W.nsIn K mainGlobals "LONGEST_NAME" = some (some (.int 8 t_LONGEST_NAME)))
    (z_tuple : PySem.W.nsIn K mainGlobals "tuple" = some none)
    (z_list : PySem.W.nsIn K mainGlobals "list" = some none)
    (z_set : PySem.W.nsIn K mainGlobals "set" = some none)
    (z_sorted : PySem.W.nsIn K mainGlobals "sorted" = some none)
    (z_abs : PySem.W.nsIn K mainGlobals "abs" = some none)
    (z_enumerate : PySem.W.nsIn K mainGlobals "enumerate" = some none)
    (z_int : PySem.W.nsIn K mainGlobals "int" = some none)
    (z_range : PySem.W.nsIn K mainGlobals "range" = some none)
    (z_bool : PySem.W.nsIn K mainGlobals "bool" = some none)
    (z_max : PySem.W.nsIn K mainGlobals "max" = some none)
    (z_min : PySem.W.nsIn K mainGlobals "min" = some none)
    : ∃ fd : FuncData, (∀ (s : Shared) (v : Value), BindsTo s fd ⟨[v], []⟩ [("_law_script", v)]) ∧ ∀ base : Heap, K.In base → base.Ns mainGlobals mg → FnOk l.prog w K mg base CX0 6 fa fd ["_law_script"] (spF K (f_law fun i => ([0, 0, 0, 0, 0, 0, 0, 0, 0, 0, 0, 0, 0, 0, 0, 0, 0, 0, 0, 0, 0, 0, 0, 0, 0, 0, C26] : List Addr).getD i 0)) := by
  have e := hfa.symm.trans (PySem.W.mg_of X G a_law)
  cases e
  let cl : Nat → Addr := fun i => ([0, 0, 0, 0, 0, 0, 0, 0, 0, 0, 0, 0, 0, 0, 0, 0, 0, 0, 0, 0, 0, 0, 0, 0, 0, 0, C26] : List Addr).getD i 0
  have F_is_name := fun_mk (st := s_is_name) l_is_name cd_in_is_name kp_is_name
  have b_is_name := F_is_name.binds (ps := ["value"]) fun _ _ _ _ _ _ us hl => match us, hl with | [_], _ => rfl
  have g_is_name := PySem.W.mg_of X G a_is_name
  have k_is_name := kp_is_name
  have F_those_in := fun_mk (st := s_those_in) l_those_in cd_in_those_in kp_those_in
  have b_those_in := F_those_in.binds (ps := ["names", "held"]) fun _ _ _ _ _ _ us hl => match us, hl with | [_, _], _ => rfl
  have g_those_in := PySem.W.mg_of X G a_those_in
  have k_those_in := kp_those_in
  have F_is_sender := fun_mk (st := s_is_sender) l_is_sender cd_in_is_sender kp_is_sender
  have b_is_sender := F_is_sender.binds (ps := ["thing"]) fun _ _ _ _ _ _ us hl => match us, hl with | [_], _ => rfl
  have g_is_sender := PySem.W.mg_of X G a_is_sender
  have k_is_sender := kp_is_sender
  have F_Senders_init := fun_mk (st := s_Senders_init) l_Senders_init cd_in_Senders_init kp_Senders_init
  have F_Senders_give : FunD K "give" "Senders.give" (defArgs s_Senders_give) (defBody s_Senders_give) (defScope s_Senders_give) [] [("by_hand", .bl false)] f_Senders_give_ _ := ⟨⟨_, _, _, _, _, _, _, _, _, _, rfl, l_Senders_give, cd_in_Senders_give, .inl ⟨rfl, rfl⟩, .inr ⟨_, rfl, fun q hq => by simp at hq; rcases hq with rfl <;> first | exact ⟨_, ns_Senders_give_by_hand, rfl⟩⟩⟩, kp_Senders_give⟩
  have dd_Senders_give_by_hand : ∀ I, FD.Is K I (.bl false) (.bl false) := fun _ => .bl _
  have F_Senders_standings_of := fun_mk (st := s_Senders_standings_of) l_Senders_standings_of cd_in_Senders_standings_of kp_Senders_standings_of
  have b_Senders_standings_of := F_Senders_standings_of.binds (ps := ["self", "sender"]) fun _ _ _ _ _ _ us hl => match us, hl with | [_, _], _ => rfl
  have F_Senders_by_hand := fun_mk (st := s_Senders_by_hand) l_Senders_by_hand cd_in_Senders_by_hand kp_Senders_by_hand
  have b_Senders_by_hand := F_Senders_by_hand.binds (ps := ["self", "sender"]) fun _ _ _ _ _ _ us hl => match us, hl with | [_, _], _ => rfl
  have F_Senders_names := fun_mk (st := s_Senders_names) l_Senders_names cd_in_Senders_names kp_Senders_names
  have b_Senders_names := F_Senders_names.binds (ps := ["self"]) fun _ _ _ _ _ _ us hl => match us, hl with | [_], _ => rfl
  have F_Senders_contains := fun_mk (st := s_Senders_contains) l_Senders_contains cd_in_Senders_contains kp_Senders_contains
  have b_Senders_contains := F_Senders_contains.binds (ps := ["self", "sender"]) fun _ _ _ _ _ _ us hl => match us, hl with | [_, _], _ => rfl
  have F_Senders_len := fun_mk (st := s_Senders_len) l_Senders_len cd_in_Senders_len kp_Senders_len
  have b_Senders_len := F_Senders_len.binds (ps := ["self"]) fun _ _ _ _ _ _ us hl => match us, hl with | [_], _ => rfl
  have F_law_bag := fun_mk (st := s_law_bag) l_law_bag cd_in_law_bag kp_law_bag
  have b_law_bag := F_law_bag.binds (ps := ["_law_script", "_law_at"]) fun _ _ _ _ _ _ us hl => match us, hl with | [_, _], _ => rfl
  have g_law_bag := PySem.W.mg_of X G a_law_bag
  have k_law_bag := kp_law_bag
  have F_law_take := fun_mk (st := s_law_take) l_law_take cd_in_law_take kp_law_take
  have b_law_take := F_law_take.binds (ps := ["_law_bag_here", "_law_many"]) fun _ _ _ _ _ _ us hl => match us, hl with | [_, _], _ => rfl
  have g_law_take := PySem.W.mg_of X G a_law_take
  have k_law_take := kp_law_take
  have F_law_of := fun_mk (st := s_law_of) l_law_of cd_in_law_of kp_law_of
  have b_law_of := F_law_of.binds (ps := ["_law_bag_here", "_law_some_here"]) fun _ _ _ _ _ _ us hl => match us, hl with | [_, _], _ => rfl
  have g_law_of := PySem.W.mg_of X G a_law_of
  have k_law_of := kp_law_of
  have F_law_names := fun_mk (st := s_law_names) l_law_names cd_in_law_names kp_law_names
  have b_law_names := F_law_names.binds (ps := ["_law_bag_here", "_law_many"]) fun _ _ _ _ _ _ us hl => match us, hl with | [_, _], _ => rfl
  have g_law_names := PySem.W.mg_of X G a_law_names
  have k_law_names := kp_law_names
  have F_law_told := fun_mk (st := s_law_told) l_law_told cd_in_law_told kp_law_told
  have b_law_told := F_law_told.binds (ps := ["_law_table", "_law_order", "_law_gifts", "_law_senders"]) fun _ _ _ _ _ _ us hl => match us, hl with | [_, _, _, _], _ => rfl
  have g_law_told := PySem.W.mg_of X G a_law_told
  have k_law_told := kp_law_told
  have F_law_given := fun_mk (st := s_law_given) l_law_given cd_in_law_given kp_law_given
  have b_law_given := F_law_given.binds (ps := ["_law_table", "_law_gift"]) fun _ _ _ _ _ _ us hl => match us, hl with | [_, _], _ => rfl
  have g_law_given := PySem.W.mg_of X G a_law_given
  have k_law_given := kp_law_given
  have F_law_bool := fun_mk (st := s_law_bool) l_law_bool cd_in_law_bool kp_law_bool
  have b_law_bool := F_law_bool.binds (ps := ["_law_told_here", "_law_due"]) fun _ _ _ _ _ _ us hl => match us, hl with | [_, _], _ => rfl
  have g_law_bool := PySem.W.mg_of X G a_law_bool
  have k_law_bool := kp_law_bool
  have F_law_bent := fun_mk (st := s_law_bent) l_law_bent cd_in_law_bent kp_law_bent
  have b_law_bent := F_law_bent.binds (ps := ["_law_one"]) fun _ _ _ _ _ _ us hl => match us, hl with | [_], _ => rfl
  have g_law_bent := PySem.W.mg_of X G a_law_bent
  have k_law_bent := kp_law_bent
  have F_law_none := fun_mk (st := s_law_none) l_law_none cd_in_law_none kp_law_none
  have b_law_none := F_law_none.binds (ps := ["_law_things"]) fun _ _ _ _ _ _ us hl => match us, hl with | [_], _ => rfl
  have g_law_none := PySem.W.mg_of X G a_law_none
  have k_law_none := kp_law_none
  have F_law_filled := fun_mk (st := s_law_filled) l_law_filled cd_in_law_filled kp_law_filled
  have b_law_filled := F_law_filled.binds (ps := ["_law_table", "_law_order", "_law_row", "_law_senders"]) fun _ _ _ _ _ _ us hl => match us, hl with | [_, _, _, _], _ => rfl
  have g_law_filled := PySem.W.mg_of X G a_law_filled
  have k_law_filled := kp_law_filled
  have F_law := fun_mk (st := s_law) l_law cd_in_law kp_law
  have g_law := PySem.W.mg_of X G a_law
  have k_law := kp_law
  have g_Senders : mg "Senders" = some (.ref C26) := PySem.W.mg_of X G aC_Senders
  have c_Senders : Cls K C26 := ⟨pg_Senders, hd_Senders, po_Senders, sa_Senders⟩
  have cf_Senders : ClsF K C26 ["_standings", "_by_hand", "_by_stamps"] := ⟨c_Senders, fun f hf => by simp at hf; rcases hf with rfl | rfl | rfl <;> first | exact nf_Senders__standings | exact nf_Senders__by_hand | exact nf_Senders__by_stamps, by decide⟩
  have n_Senders__standings : NoAttr K C26 "_standings" := nf_Senders__standings
  have n_Senders__by_hand : NoAttr K C26 "_by_hand" := nf_Senders__by_hand
  have n_Senders__by_stamps : NoAttr K C26 "_by_stamps" := nf_Senders__by_stamps
  have M_Senders : Mk K C26 f_Senders_init_ := ⟨mk_Senders, a_Senders_init, i_Senders_init, kc_Senders⟩
  have io_Senders : IsiO K C26 := ⟨c_Senders, ca_Senders, cn_Senders, ct_Senders, cm_Senders, cb_of ic_Senders ty_Senders⟩
  have dl_Senders : DunC K C26 f_Senders_len_ "__len__" := ⟨a_Senders_len, i_Senders_len⟩
  have di_Senders : DunC K C26 f_Senders_contains_ "__contains__" := ⟨a_Senders_contains, i_Senders_contains⟩
  have mt_Senders_give : Meth K C26 "give" f_Senders_give_ := ⟨a_Senders_give, i_Senders_give, kp_Senders_give⟩
  have mt_Senders_standings_of : Meth K C26 "standings_of" f_Senders_standings_of_ := ⟨a_Senders_standings_of, i_Senders_standings_of, kp_Senders_standings_of⟩
  have mt_Senders_by_hand : Meth K C26 "by_hand" f_Senders_by_hand_ := ⟨a_Senders_by_hand, i_Senders_by_hand, kp_Senders_by_hand⟩
  have mt_Senders_names : Meth K C26 "names" f_Senders_names_ := ⟨a_Senders_names, i_Senders_names, kp_Senders_names⟩
  have m_all := PySem.W.mg_none_of X G z_all
  have m_isinstance := PySem.W.mg_none_of X G z_isinstance
  have m_len := PySem.W.mg_none_of X G z_len
  have m_str := PySem.W.mg_none_of X G z_str
  have g_LONGEST_NAME := PySem.W.mg_of X G v_LONGEST_NAME
  have m_tuple := PySem.W.mg_none_of X G z_tuple
  have m_list := PySem.W.mg_none_of X G z_list
  have m_set := PySem.W.mg_none_of X G z_set
  have m_sorted := PySem.W.mg_none_of X G z_sorted
  have m_abs := PySem.W.mg_none_of X G z_abs
  have m_enumerate := PySem.W.mg_none_of X G z_enumerate
  have m_int := PySem.W.mg_none_of X G z_int
  have m_range := PySem.W.mg_none_of X G z_range
  have m_bool := PySem.W.mg_none_of X G z_bool
  have m_max := PySem.W.mg_none_of X G z_max
  have m_min := PySem.W.mg_none_of X G z_min
  obtain ⟨mv_kb_Senders_give_1_standing_by_hand, kb_Senders_give_1_standing_by_hand⟩ := F_Senders_give.kbinds0 (ps := ["self", "sender", "standing", "by_hand"]) 2 ["standing", "by_hand"] [] (fun us mv ws => us ++ ws) (by simp) (by simp) (fun h1 h2 h3 => h1.append h3) (fun D doc pm an cdv ct us mv ws h1 h2 h3 => match us, mv, ws, h1, h2, h3 with | [_, _], [], [_, _], _, _, _ => rfl)
  obtain ⟨mv_kb_Senders_give_2_, kb_Senders_give_2_⟩ := F_Senders_give.kbinds0 (ps := ["self", "sender", "standing", "by_hand"]) 3 [] [("by_hand", .bl false)] (fun us mv ws => us ++ mv) (by simp) (by simp) (fun h1 h2 h3 => h1.append h2) (fun D doc pm an cdv ct us mv ws h1 h2 h3 => match us, mv, ws, h1, h2, h3 with | [_, _, _], [_], [], _, _, _ => ⟨_, _, _, _, _, _, rfl, rfl, rfl⟩)
  have b_Senders_init := F_Senders_init.binds (ps := ["self", "standings"]) fun _ _ _ _ _ _ us hl => match us, hl with | [_, _], _ => rfl
  have kb_Senders_1_ := kb_plain b_Senders_init (n := 2) rfl
  refine ⟨PySem.W.fnOf "law" "law" (defArgs s_law) (defBody s_law) (defScope s_law) .none kV_law dc_law pm_law an_law cd_law ct_law, fun s v => .of_eq rfl, fun base _ _ => ?_⟩
  have G_is_name := ok_is_name (P := l.prog) (w := w) (mg := mg) (base := base) (cl := cl) F_is_name m_all m_isinstance m_len m_str g_LONGEST_NAME
  have G_those_in := ok_those_in (P := l.prog) (w := w) (mg := mg) (base := base) (cl := cl) F_those_in m_tuple
  have G_is_sender := ok_is_sender (P := l.prog) (w := w) (mg := mg) (base := base) (cl := cl) F_is_sender G_is_name g_is_name k_is_name b_is_name m_isinstance m_len m_str
  have G_Senders_init := ok_Senders_init (P := l.prog) (w := w) (mg := mg) (base := base) (cl := cl) F_Senders_init c_Senders n_Senders__standings n_Senders__by_hand n_Senders__by_stamps m_tuple
  have G_Senders_give := ok_Senders_give (P := l.prog) (w := w) (mg := mg) (base := base) (cl := cl) F_Senders_give cf_Senders
  have G_Senders_standings_of := ok_Senders_standings_of (P := l.prog) (w := w) (mg := mg) (base := base) (cl := cl) F_Senders_standings_of G_those_in g_those_in k_those_in b_those_in cf_Senders
  have G_Senders_by_hand := ok_Senders_by_hand (P := l.prog) (w := w) (mg := mg) (base := base) (cl := cl) F_Senders_by_hand G_those_in g_those_in k_those_in b_those_in cf_Senders
  have G_Senders_names := ok_Senders_names (P := l.prog) (w := w) (mg := mg) (base := base) (cl := cl) F_Senders_names cf_Senders m_list m_set m_sorted
  have G_Senders_contains := ok_Senders_contains (P := l.prog) (w := w) (mg := mg) (base := base) (cl := cl) F_Senders_contains cf_Senders
  have G_Senders_len := ok_Senders_len (P := l.prog) (w := w) (mg := mg) (base := base) (cl := cl) F_Senders_len G_Senders_names b_Senders_names c_Senders mt_Senders_names m_len
  have G_law_bag := ok_law_bag (P := l.prog) (w := w) (mg := mg) (base := base) (cl := cl) F_law_bag m_abs m_enumerate m_int m_len
  have G_law_take := ok_law_take (P := l.prog) (w := w) (mg := mg) (base := base) (cl := cl) F_law_take m_int
  have G_law_of := ok_law_of (P := l.prog) (w := w) (mg := mg) (base := base) (cl := cl) F_law_of G_law_take g_law_take k_law_take b_law_take m_len
  have G_law_names := ok_law_names (P := l.prog) (w := w) (mg := mg) (base := base) (cl := cl) F_law_names G_law_of g_law_of k_law_of b_law_of G_law_take g_law_take k_law_take b_law_take m_range
  have G_law_told := ok_law_told (P := l.prog) (w := w) (mg := mg) (base := base) (cl := cl) F_law_told G_Senders_standings_of b_Senders_standings_of c_Senders mt_Senders_standings_of G_Senders_by_hand b_Senders_by_hand mt_Senders_by_hand G_Senders_contains b_Senders_contains di_Senders G_Senders_len b_Senders_len dl_Senders G_Senders_names b_Senders_names mt_Senders_names m_isinstance m_len m_list m_sorted m_tuple
  have G_law_given := ok_law_given (P := l.prog) (w := w) (mg := mg) (base := base) (cl := cl) F_law_given G_Senders_give c_Senders mt_Senders_give kb_Senders_give_1_standing_by_hand kb_Senders_give_2_ dd_Senders_give_by_hand
  have G_law_bool := ok_law_bool (P := l.prog) (w := w) (mg := mg) (base := base) (cl := cl) F_law_bool m_bool m_isinstance
  have G_law_bent := ok_law_bent (P := l.prog) (w := w) (mg := mg) (base := base) (cl := cl) F_law_bent 
  have G_law_none := ok_law_none (P := l.prog) (w := w) (mg := mg) (base := base) (cl := cl) F_law_none G_is_sender g_is_sender k_is_sender b_is_sender
  have G_law_filled := ok_law_filled (P := l.prog) (w := w) (mg := mg) (base := base) (cl := cl) F_law_filled G_law_bool g_law_bool k_law_bool b_law_bool G_law_given g_law_given k_law_given b_law_given G_law_told g_law_told k_law_told b_law_told
  exact ok_law (P := l.prog) (w := w) (mg := mg) (base := base) (cl := cl) F_law G_law_bag g_law_bag k_law_bag b_law_bag G_law_names g_law_names k_law_names b_law_names G_law_take g_law_take k_law_take b_law_take G_law_of g_law_of k_law_of b_law_of G_Senders_init g_Senders M_Senders kb_Senders_1_ G_law_told g_law_told k_law_told b_law_told G_law_filled g_law_filled k_law_filled b_law_filled G_Senders_names b_Senders_names c_Senders mt_Senders_names G_law_none g_law_none k_law_none b_law_none G_law_bent g_law_bent k_law_bent b_law_bent G_is_sender g_is_sender k_is_sender b_is_sender m_len m_list m_max m_min m_range m_tuple
theorem sp_here (cl : Nat → Addr) (hl : ∀ ns : List Int, ns.length ≤ 63 → ∃ post, f_law cl [.d (.lst (ns.map .int))] = some (.ret (.d (.bl true)) post)) {K : PySem.W.Frag} {H : Hp} {a : Addr} {ns : List Int} (hz : ns.length ≤ 63) (hS : SqL K H a (ns.map V.int)) : spF K (f_law cl) [.ref a] H (fun v _ => v = .bl true) fun _ _ _ => False := by
  obtain ⟨post, e⟩ := hl ns hz
  refine spF_pure (xs := [.lst (ns.map .int)]) (Ex.refl H) (.cons (.lst hS (isA_ints.mpr rfl)) .nil) e rfl fun v I' H' _ _ hv => ?_
  cases hv
  rfl
def okCl (cl : Nat → Addr) : Prop := [cl 26].Nodup
def spLaw (K : PySem.W.Frag) : Sp := fun vs H Q E => ∀ cl, okCl cl → spF K (f_law cl) vs H Q E
theorem law_sp {P : Program} {w : PySem.World} {K : PySem.W.Frag} {mg : Str → Option Value} {base : Heap} {k : Nat} {f : Addr} {fd : FuncData} {ps : List Str} {cl : Nat → Addr} (hc : okCl cl) (F : FnOk P w K mg base CX0 k f fd ps (spF K (f_law cl))) : FnOk P w K mg base CX0 k f fd ps (spLaw K) :=
  ⟨fun vs H Q E h => F.len vs H Q E (h cl hc), fun A outer s H args us vs Q E hr he hb hv h => F.run A outer s H args us vs Q E hr he hb hv (h cl hc)⟩
end G21
namespace FD
open PySem PySem.Spec PyProof.Rows L2
inductive Pin {α : Type} (Q : α → Prop) : Type where
  | mk
/-- the Pin keeps simp out of Q -/
def OkP {α : Type} (r : Option α) (Q : α → Prop) (_ : Pin Q) : Prop := ∃ a, r = some a ∧ Q a
abbrev Ok {α : Type} (r : Option α) (Q : α → Prop) : Prop := OkP r Q .mk
theorem Ok.get {α : Type} {r : Option α} {Q : α → Prop} (h : Ok r Q) : ∃ a, r = some a ∧ Q a := h
theorem OkP.get {α : Type} {r : Option α} {Q : α → Prop} (h : Ok r Q) : ∃ a, r = some a ∧ Q a := h
theorem Ok.eq {α : Type} {r : Option α} {a : α} (h : Ok r (fun b => b = a)) : r = some a := by obtain ⟨b, e, rfl⟩ := h; exact e
theorem Ok.mono {α : Type} {r : Option α} {P Q : α → Prop} (h : Ok r P) (g : ∀ a, P a → Q a) : Ok r Q := by obtain ⟨a, e, p⟩ := h; exact ⟨a, e, g a p⟩
theorem OkP.mono {α : Type} {r : Option α} {P Q : α → Prop} (h : Ok r P) (g : ∀ a, P a → Q a) : Ok r Q := Ok.mono h g
theorem Ok.of {α : Type} {r : Option α} {a : α} {Q : α → Prop} (e : r = some a) (h : Q a) : Ok r Q := ⟨a, e, h⟩
@[simp] theorem ok_some {α : Type} (a : α) (Q : α → Prop) : Ok (some a) Q ↔ Q a := ⟨fun ⟨b, e, h⟩ => (by cases e; exact h), fun h => ⟨a, rfl, h⟩⟩
@[simp] theorem ok_none {α : Type} (Q : α → Prop) : Ok (none : Option α) Q ↔ False := ⟨fun h => (by obtain ⟨b, e, _⟩ := h; cases e), fun h => False.elim h⟩
@[simp ↓] theorem ok_bind {α β : Type} (r : Option α) (f : α → Option β) (Q : β → Prop) : Ok (r.bind f) Q ↔ Ok r fun a => Ok (f a) Q := by
  cases r with
  | none => simp
  | some a => simp
@[simp ↓] theorem ok_map {α β : Type} (r : Option α) (f : α → β) (Q : β → Prop) : Ok (r.map f) Q ↔ Ok r fun a => Q (f a) := by
  cases r with
  | none => simp
  | some a => simp
@[simp] theorem ok_iteN {α : Type} (c : Prop) [Decidable c] (a : Option α) (Q : α → Prop) : Ok (if c then a else none) Q ↔ c ∧ Ok a Q := by
  by_cases h : c
  · rw [if_pos h]; exact ⟨fun q => ⟨h, q⟩, fun q => q.2⟩
  · rw [if_neg h]; exact ⟨fun q => absurd q ((ok_none Q).mp), fun q => absurd q.1 h⟩
@[simp] theorem ok_iteN' {α : Type} (c : Prop) [Decidable c] (a : Option α) (Q : α → Prop) : Ok (if c then none else a) Q ↔ ¬ c ∧ Ok a Q := by
  by_cases h : c
  · rw [if_pos h]; exact ⟨fun q => absurd q ((ok_none Q).mp), fun q => absurd h q.1⟩
  · rw [if_neg h]; exact ⟨fun q => ⟨h, q⟩, fun q => q.2⟩
def RetK (o : RF) (k : T → List T → Prop) : Prop := match o with
  | .ret r p => k r p
  | .exc _ _ _ => False
@[simp] theorem retK_r (r : T) (p : List T) (k : T → List T → Prop) : RetK (.ret r p) k ↔ k r p := Iff.rfl
@[simp] theorem retK_x (C : Addr) (fs : List (Str × D)) (p : List T) (k : T → List T → Prop) : RetK (.exc C fs p) k ↔ False := Iff.rfl
def RexK (o : RF) (k : T → List T → Prop) (x : Addr → List (Str × D) → List T → Prop) : Prop := match o with
  | .ret r p => k r p
  | .exc C fs p => x C fs p
@[simp] theorem rexK_r (r : T) (p : List T) (k : T → List T → Prop) (x : Addr → List (Str × D) → List T → Prop) : RexK (.ret r p) k x ↔ k r p := Iff.rfl
@[simp] theorem rexK_x (C : Addr) (fs : List (Str × D)) (p : List T) (k : T → List T → Prop) (x : Addr → List (Str × D) → List T → Prop) : RexK (.exc C fs p) k x ↔ x C fs p := Iff.rfl
@[simp ↓] theorem ok_pVar (i : Nat) (γ : List T) (Q__ : D → Prop) : Ok (pVar i γ) Q__ ↔ Ok (match γ[i]? with
  | some (.d x) => some x
  | _ => none) Q__ := Iff.rfl
@[simp ↓] theorem ok_cVar (i : Nat) (γ : List T) (Q__ : D → Prop) : Ok (cVar i γ) Q__ ↔ Ok ((γ[i]?).bind T.top) Q__ := Iff.rfl
@[simp ↓] theorem ok_pC (x : D) (γ : List T) (Q__ : D → Prop) : Ok (pC x γ) Q__ ↔ Ok (some x) Q__ := Iff.rfl
@[simp ↓] theorem ok_pOp (o : D → D → Option D) (f g : List T → Option D) (γ : List T) (Q__ : D → Prop) : Ok (pOp o f g γ) Q__ ↔ Ok ((f γ).bind fun x => (g γ).bind fun y => o x y) Q__ := Iff.rfl
@[simp ↓] theorem ok_pUn (o : D → Option D) (f : List T → Option D) (γ : List T) (Q__ : D → Prop) : Ok (pUn o f γ) Q__ ↔ Ok ((f γ).bind o) Q__ := Iff.rfl
@[simp ↓] theorem ok_pNil  (γ : List T) (Q__ : List D → Prop) : Ok (pNil  γ) Q__ ↔ Ok (some []) Q__ := Iff.rfl
@[simp ↓] theorem ok_pCons (f : List T → Option D) (g : List T → Option (List D)) (γ : List T) (Q__ : List D → Prop) : Ok (pCons f g γ) Q__ ↔ Ok ((f γ).bind fun x => (g γ).map fun xs => x :: xs) Q__ := Iff.rfl
@[simp ↓] theorem ok_pCB (o : List D → Option D) (g : List T → Option (List D)) (γ : List T) (Q__ : D → Prop) : Ok (pCB o g γ) Q__ ↔ Ok ((g γ).bind o) Q__ := Iff.rfl
@[simp ↓] theorem ok_pTup (g : List T → Option (List D)) (γ : List T) (Q__ : D → Prop) : Ok (pTup g γ) Q__ ↔ Ok ((g γ).bind fun xs => if xs.length ≤ sizeLine then some (.tup xs) else none) Q__ := Iff.rfl
@[simp ↓] theorem ok_pLst (g : List T → Option (List D)) (γ : List T) (Q__ : D → Prop) : Ok (pLst g γ) Q__ ↔ Ok ((g γ).bind fun xs => if xs.length ≤ sizeLine then some (.lst xs) else none) Q__ := Iff.rfl
@[simp ↓] theorem ok_pTest (f : List T → Option D) (γ : List T) (Q__ : Bool → Prop) : Ok (pTest f γ) Q__ ↔ Ok ((f γ).bind fun x => match x with
  | .bl b => some b
  | _ => none) Q__ := Iff.rfl
@[simp ↓] theorem ok_bNot (p : List T → Option Bool) (γ : List T) (Q__ : Bool → Prop) : Ok (bNot p γ) Q__ ↔ Ok ((p γ).map (!·)) Q__ := Iff.rfl
@[simp ↓] theorem ok_bAnd (p q : List T → Option Bool) (γ : List T) (Q__ : Bool → Prop) : Ok (bAnd p q γ) Q__ ↔ Ok ((p γ).bind fun a => if a = true then q γ else some false) Q__ := Iff.rfl
@[simp ↓] theorem ok_bOr (p q : List T → Option Bool) (γ : List T) (Q__ : Bool → Prop) : Ok (bOr p q γ) Q__ ↔ Ok ((p γ).bind fun a => if a = true then some true else q γ) Q__ := Iff.rfl
@[simp ↓] theorem ok_bYes  (γ : List T) (Q__ : Bool → Prop) : Ok (bYes  γ) Q__ ↔ Ok (some true) Q__ := Iff.rfl
@[simp ↓] theorem ok_bTru (f : List T → Option D) (γ : List T) (Q__ : Bool → Prop) : Ok (bTru f γ) Q__ ↔ Ok ((f γ).bind fun x => match x with
  | .bl b => some b
  | .int i => some (decide (i ≠ 0))
  | .str s => some (decide (s.length ≠ 0))
  | .lst ds => some (decide (ds.length ≠ 0))
  | .tup ds => some (decide (ds.length ≠ 0))
  | .non => some false
  | _ => none) Q__ := Iff.rfl
@[simp ↓] theorem ok_pAnd (f g : List T → Option D) (γ : List T) (Q__ : D → Prop) : Ok (pAnd f g γ) Q__ ↔ Ok ((f γ).bind fun x => match x with
  | .bl true => (g γ).bind fun y => match y with
    | .bl b => some (.bl b)
    | _ => none
  | .bl false => some (.bl false)
  | _ => none) Q__ := Iff.rfl
@[simp ↓] theorem ok_pOr (f g : List T → Option D) (γ : List T) (Q__ : D → Prop) : Ok (pOr f g γ) Q__ ↔ Ok ((f γ).bind fun x => match x with
  | .bl false => (g γ).bind fun y => match y with
    | .bl b => some (.bl b)
    | _ => none
  | .bl true => some (.bl true)
  | _ => none) Q__ := Iff.rfl
@[simp ↓] theorem ok_pNot (f : List T → Option D) (γ : List T) (Q__ : D → Prop) : Ok (pNot f γ) Q__ ↔ Ok ((f γ).bind fun x => match x with
  | .bl b => some (.bl (!b))
  | _ => none) Q__ := Iff.rfl
@[simp ↓] theorem ok_pIf (p : List T → Option Bool) (f g : List T → Option D) (γ : List T) (Q__ : D → Prop) : Ok (pIf p f g γ) Q__ ↔ Ok ((p γ).bind fun a => if a = true then f γ else g γ) Q__ := Iff.rfl
@[simp ↓] theorem ok_pChain (o o' : D → D → Option D) (f g h : List T → Option D) (γ : List T) (Q__ : D → Prop) : Ok (pChain o o' f g h γ) Q__ ↔ Ok ((f γ).bind fun x => (g γ).bind fun y => (o x y).bind fun z => match z with
  | .bl true => (h γ).bind fun w => (o' y w).bind fun r => match r with
    | .bl b => some (.bl b)
    | _ => none
  | .bl false => some (.bl false)
  | _ => none) Q__ := Iff.rfl
@[simp ↓] theorem ok_oNone  (γ : List T) (Q__ : Option Int → Prop) : Ok (oNone  γ) Q__ ↔ Ok (some none) Q__ := Iff.rfl
@[simp ↓] theorem ok_oSome (f : List T → Option D) (γ : List T) (Q__ : Option Int → Prop) : Ok (oSome f γ) Q__ ↔ Ok ((f γ).bind fun x => match x with
  | .int i => some (some i)
  | _ => none) Q__ := Iff.rfl
@[simp ↓] theorem ok_pSl (o : D → Option Int → Option Int → Option D) (f : List T → Option D) (a b : List T → Option (Option Int)) (γ : List T) (Q__ : D → Prop) : Ok (pSl o f a b γ) Q__ ↔ Ok ((f γ).bind fun x => (a γ).bind fun l => (b γ).bind fun h => o x l h) Q__ := Iff.rfl
@[simp ↓] theorem ok_eP (f : List T → Option D) (γ : List T) (Q__ : T × List T → Prop) : Ok (eP f γ) Q__ ↔ Ok ((f γ).map fun x => (.d x, γ)) Q__ := Iff.rfl
@[simp ↓] theorem ok_eT (f : List T → Option Bool) (γ : List T) (Q__ : Bool × List T → Prop) : Ok (eT f γ) Q__ ↔ Ok ((f γ).map fun b => (b, γ)) Q__ := Iff.rfl
@[simp ↓] theorem ok_aNil  (γ : List T) (Q__ : List T × List T → Prop) : Ok (aNil  γ) Q__ ↔ Ok (some ([], γ)) Q__ := Iff.rfl
@[simp ↓] theorem ok_aCons (f : List T → Option (T × List T)) (g : List T → Option (List T × List T)) (γ : List T) (Q__ : List T × List T → Prop) : Ok (aCons f g γ) Q__ ↔ Ok ((f γ).bind fun p => (g p.2).map fun q => (p.1 :: q.1, q.2)) Q__ := Iff.rfl
@[simp ↓] theorem ok_aBor (i : Nat) (g : List T → Option (List T × List T)) (γ : List T) (Q__ : List T × List T → Prop) : Ok (aBor i g γ) Q__ ↔ Ok (match γ[i]? with
  | some .em => none
  | some _ => (g γ).map fun q => (.em :: q.1, q.2)
  | none => none) Q__ := Iff.rfl
@[simp ↓] theorem ok_eOp (bs : List (Option Nat)) (o : D → D → Option D) (g : List T → Option (List T × List T)) (γ : List T) (Q__ : T × List T → Prop) : Ok (eOp bs o g γ) Q__ ↔ Ok ((g γ).bind fun q => (resA q.2 bs q.1).bind fun xs => match xs with
  | [x, y] => (o x y).map fun z => (.d z, q.2)
  | _ => none) Q__ := Iff.rfl
@[simp ↓] theorem ok_eUn (bs : List (Option Nat)) (o : D → Option D) (g : List T → Option (List T × List T)) (γ : List T) (Q__ : T × List T → Prop) : Ok (eUn bs o g γ) Q__ ↔ Ok ((g γ).bind fun q => (resA q.2 bs q.1).bind fun xs => match xs with
  | [x] => (o x).map fun z => (.d z, q.2)
  | _ => none) Q__ := Iff.rfl
@[simp ↓] theorem ok_eCB (bs : List (Option Nat)) (o : List D → Option D) (g : List T → Option (List T × List T)) (γ : List T) (Q__ : T × List T → Prop) : Ok (eCB bs o g γ) Q__ ↔ Ok ((g γ).bind fun q => (resA q.2 bs q.1).bind fun xs => (o xs).map fun z => (.d z, q.2)) Q__ := Iff.rfl
@[simp ↓] theorem ok_eTup (bs : List (Option Nat)) (g : List T → Option (List T × List T)) (γ : List T) (Q__ : T × List T → Prop) : Ok (eTup bs g γ) Q__ ↔ Ok ((g γ).bind fun q => (resI bs q.1).bind fun xs => if xs.length ≤ sizeLine then some (.d (.tup xs), q.2) else none) Q__ := Iff.rfl
@[simp ↓] theorem ok_eLst (bs : List (Option Nat)) (g : List T → Option (List T × List T)) (γ : List T) (Q__ : T × List T → Prop) : Ok (eLst bs g γ) Q__ ↔ Ok ((g γ).bind fun q => (resI bs q.1).bind fun xs => if xs.length ≤ sizeLine then some (.lst xs, q.2) else none) Q__ := Iff.rfl
@[simp ↓] theorem ok_eList (f : List T → Option D) (γ : List T) (Q__ : T × List T → Prop) : Ok (eList f γ) Q__ ↔ Ok ((f γ).bind fun x => (items x).map fun xs => (.lst xs, γ)) Q__ := Iff.rfl
@[simp ↓] theorem ok_eDic  (γ : List T) (Q__ : T × List T → Prop) : Ok (eDic  γ) Q__ ↔ Ok (some (.dic [] [], γ)) Q__ := Iff.rfl
@[simp ↓] theorem ok_eFrz (i : Nat) (γ : List T) (Q__ : T × List T → Prop) : Ok (eFrz i γ) Q__ ↔ Ok ((γ[i]?).bind fun t => t.toD.map fun x => (.d x, γ.set i (.d x))) Q__ := Iff.rfl
@[simp ↓] theorem ok_eTest (f : List T → Option (T × List T)) (γ : List T) (Q__ : Bool × List T → Prop) : Ok (eTest f γ) Q__ ↔ Ok ((f γ).bind fun q => match q.1 with
  | .d (.bl b) => some (b, q.2)
  | _ => none) Q__ := Iff.rfl
@[simp ↓] theorem ok_eNot (p : List T → Option (Bool × List T)) (γ : List T) (Q__ : Bool × List T → Prop) : Ok (eNot p γ) Q__ ↔ Ok ((p γ).map fun q => (!q.1, q.2)) Q__ := Iff.rfl
@[simp ↓] theorem ok_eAnd (p q : List T → Option (Bool × List T)) (γ : List T) (Q__ : Bool × List T → Prop) : Ok (eAnd p q γ) Q__ ↔ Ok ((p γ).bind fun a => if a.1 = true then q a.2 else some (false, a.2)) Q__ := Iff.rfl
@[simp ↓] theorem ok_eOr (p q : List T → Option (Bool × List T)) (γ : List T) (Q__ : Bool × List T → Prop) : Ok (eOr p q γ) Q__ ↔ Ok ((p γ).bind fun a => if a.1 = true then some (true, a.2) else q a.2) Q__ := Iff.rfl
@[simp ↓] theorem ok_eAndV (f g : List T → Option (T × List T)) (γ : List T) (Q__ : T × List T → Prop) : Ok (eAndV f g γ) Q__ ↔ Ok ((f γ).bind fun q => match q.1 with
  | .d (.bl true) => (g q.2).bind fun r => match r.1 with
    | .d (.bl b) => some (.d (.bl b), r.2)
    | _ => none
  | .d (.bl false) => some (.d (.bl false), q.2)
  | _ => none) Q__ := Iff.rfl
@[simp ↓] theorem ok_eOrV (f g : List T → Option (T × List T)) (γ : List T) (Q__ : T × List T → Prop) : Ok (eOrV f g γ) Q__ ↔ Ok ((f γ).bind fun q => match q.1 with
  | .d (.bl false) => (g q.2).bind fun r => match r.1 with
    | .d (.bl b) => some (.d (.bl b), r.2)
    | _ => none
  | .d (.bl true) => some (.d (.bl true), q.2)
  | _ => none) Q__ := Iff.rfl
@[simp ↓] theorem ok_eNotV (f : List T → Option (T × List T)) (γ : List T) (Q__ : T × List T → Prop) : Ok (eNotV f γ) Q__ ↔ Ok ((f γ).bind fun q => match q.1 with
  | .d (.bl b) => some (.d (.bl (!b)), q.2)
  | _ => none) Q__ := Iff.rfl
@[simp ↓] theorem ok_eIf (p : List T → Option (Bool × List T)) (f g : List T → Option (T × List T)) (γ : List T) (Q__ : T × List T → Prop) : Ok (eIf p f g γ) Q__ ↔ Ok ((p γ).bind fun a => if a.1 = true then f a.2 else g a.2) Q__ := Iff.rfl
@[simp ↓] theorem ok_eCall (g : FN) (bs : List (Option Nat)) (a : List T → Option (List T × List T)) (γ : List T) (Q__ : T × List T → Prop) : Ok (eCall g bs a γ) Q__ ↔ Ok ((a γ).bind fun q => callF g bs q.1 q.2) Q__ := Iff.rfl
@[simp ↓] theorem ok_gN (i : Nat) (x : D) (γ : List T) (Q__ : List T → Prop) : Ok (gN i x γ) Q__ ↔ Ok (some (γ.set i (.d x))) Q__ := Iff.rfl
@[simp ↓] theorem ok_gNl  (xs : List D) (γ : List T) (Q__ : List T → Prop) : Ok (gNl  xs γ) Q__ ↔ Ok (match xs with
  | [] => some γ
  | _ => none) Q__ := Iff.rfl
@[simp ↓] theorem ok_gCn (f : D → List T → Option (List T)) (g : List D → List T → Option (List T)) (xs : List D) (γ : List T) (Q__ : List T → Prop) : Ok (gCn f g xs γ) Q__ ↔ Ok (match xs with
  | x :: xs => (f x γ).bind fun γ1 => g xs γ1
  | [] => none) Q__ := Iff.rfl
@[simp ↓] theorem ok_gTp (n : Nat) (g : List D → List T → Option (List T)) (x : D) (γ : List T) (Q__ : List T → Prop) : Ok (gTp n g x γ) Q__ ↔ Ok (match x with
  | .tup ds => if ds.length = n then g ds γ else none
  | _ => none) Q__ := Iff.rfl
@[simp ↓] theorem ok_iAnyF (f : List T → Option D) (γ : List T) (Q__ : List D → Prop) : Ok (iAnyF f γ) Q__ ↔ Ok ((f γ).bind walkD) Q__ := Iff.rfl
@[simp ↓] theorem ok_iR1 (f : List T → Option D) (γ : List T) (Q__ : List D → Prop) : Ok (iR1 f γ) Q__ ↔ Ok ((f γ).bind fun x => match x with
  | .int n => if -(2 ^ 62) ≤ n ∧ n < 2 ^ 62 then some (intsD 0 n.toNat) else none
  | _ => none) Q__ := Iff.rfl
@[simp ↓] theorem ok_iR2 (f g : List T → Option D) (γ : List T) (Q__ : List D → Prop) : Ok (iR2 f g γ) Q__ ↔ Ok ((f γ).bind fun x => (g γ).bind fun y => match x, y with
  | .int lo, .int n => if -(2 ^ 62) ≤ lo ∧ lo < 2 ^ 62 ∧ -(2 ^ 62) ≤ n ∧ n < 2 ^ 62 then some (intsD lo (n - lo).toNat) else none
  | _, _ => none) Q__ := Iff.rfl
@[simp ↓] theorem ok_iEn (f : List T → Option D) (γ : List T) (Q__ : List D → Prop) : Ok (iEn f γ) Q__ ↔ Ok ((f γ).bind fun x => match x with
  | .lst ds => some (enumD ds)
  | _ => none) Q__ := Iff.rfl
@[simp ↓] theorem ok_iZp (f g : List T → Option D) (γ : List T) (Q__ : List D → Prop) : Ok (iZp f g γ) Q__ ↔ Ok ((f γ).bind fun x => (g γ).bind fun y => match x, y with
  | .lst xs, .lst ys => some (zipD xs ys)
  | _, _ => none) Q__ := Iff.rfl
@[simp ↓] theorem ok_pLc (vs : List Nat) (it : List T → Option (List D)) (g : D → List T → Option (List T)) (c : List T → Option Bool) (f : List T → Option D) (γ : List T) (Q__ : D → Prop) : Ok (pLc vs it g c f γ) Q__ ↔ Ok (if vs.all (isEm γ) = true then (it γ).bind fun ds => if ds.length < sizeLine then (lcP g c f γ ds).map .lst else none else none) Q__ := Iff.rfl
@[simp ↓] theorem ok_sNext  (γ : List T) (Q__ : O → Prop) : Ok (sNext  γ) Q__ ↔ Ok (some (.nx γ)) Q__ := Iff.rfl
@[simp ↓] theorem ok_sSeq (f g : List T → Option O) (γ : List T) (Q__ : O → Prop) : Ok (sSeq f g γ) Q__ ↔ Ok ((f γ).bind fun o => match o with
  | .nx γ1 => g γ1
  | o => some o) Q__ := Iff.rfl
@[simp ↓] theorem ok_sAsg (i : Nat) (f : List T → Option (T × List T)) (γ : List T) (Q__ : O → Prop) : Ok (sAsg i f γ) Q__ ↔ Ok ((f γ).map fun q => .nx (q.2.set i q.1)) Q__ := Iff.rfl
@[simp ↓] theorem ok_eD (f : List T → Option (T × List T)) (γ : List T) (Q__ : T × List T → Prop) : Ok (eD f γ) Q__ ↔ Ok ((f γ).bind fun q => q.1.toD.map fun x => (.d x, q.2)) Q__ := Iff.rfl
@[simp ↓] theorem ok_sAsgD (i : Nat) (f : List T → Option (T × List T)) (γ : List T) (Q__ : O → Prop) : Ok (sAsgD i f γ) Q__ ↔ Ok ((f γ).bind fun q => q.1.toD.map fun x => .nx (q.2.set i (.d x))) Q__ := Iff.rfl
@[simp ↓] theorem ok_sAsgG (g : D → List T → Option (List T)) (f : List T → Option (T × List T)) (γ : List T) (Q__ : O → Prop) : Ok (sAsgG g f γ) Q__ ↔ Ok ((f γ).bind fun q => q.1.toD.bind fun x => (g x q.2).map .nx) Q__ := Iff.rfl
@[simp ↓] theorem ok_sPar (js : List Nat) (g : List T → Option (List T × List T)) (γ : List T) (Q__ : O → Prop) : Ok (sPar js g γ) Q__ ↔ Ok ((g γ).bind fun q => if q.1.length = js.length then some (.nx ((js.zip q.1).foldl (fun γ p => γ.set p.1 p.2) q.2)) else none) Q__ := Iff.rfl
@[simp ↓] theorem ok_sRet (f : List T → Option (T × List T)) (γ : List T) (Q__ : O → Prop) : Ok (sRet f γ) Q__ ↔ Ok ((f γ).map fun q => .rt q.1 q.2) Q__ := Iff.rfl
@[simp ↓] theorem ok_sRetN  (γ : List T) (Q__ : O → Prop) : Ok (sRetN  γ) Q__ ↔ Ok (some (.rt (.d .non) γ)) Q__ := Iff.rfl
@[simp ↓] theorem ok_eMov (i : Nat) (γ : List T) (Q__ : T × List T → Prop) : Ok (eMov i γ) Q__ ↔ Ok (match γ[i]? with
  | some (.d x) => some (.d x, γ)
  | some .em => none
  | some t => some (t, γ.set i .em)
  | none => none) Q__ := Iff.rfl
@[simp ↓] theorem ok_sExpr (f : List T → Option (T × List T)) (γ : List T) (Q__ : O → Prop) : Ok (sExpr f γ) Q__ ↔ Ok ((f γ).map fun q => .nx q.2) Q__ := Iff.rfl
@[simp ↓] theorem ok_sBrk  (γ : List T) (Q__ : O → Prop) : Ok (sBrk  γ) Q__ ↔ Ok (some (.bk γ)) Q__ := Iff.rfl
@[simp ↓] theorem ok_sCont  (γ : List T) (Q__ : O → Prop) : Ok (sCont  γ) Q__ ↔ Ok (some (.ct γ)) Q__ := Iff.rfl
@[simp ↓] theorem ok_sIf (p : List T → Option (Bool × List T)) (f g : List T → Option O) (γ : List T) (Q__ : O → Prop) : Ok (sIf p f g γ) Q__ ↔ Ok ((p γ).bind fun q => if q.1 = true then f q.2 else g q.2) Q__ := Iff.rfl
@[simp ↓] theorem ok_sNo  (γ : List T) (Q__ : O → Prop) : Ok (sNo  γ) Q__ ↔ Ok (none) Q__ := Iff.rfl
@[simp ↓] theorem ok_eNo  (γ : List T) (Q__ : T × List T → Prop) : Ok (eNo  γ) Q__ ↔ Ok (none) Q__ := Iff.rfl
@[simp ↓] theorem ok_iP (f : List T → Option (List D)) (γ : List T) (Q__ : List D × List T → Prop) : Ok (iP f γ) Q__ ↔ Ok ((f γ).map fun ds => (ds, γ)) Q__ := Iff.rfl
@[simp ↓] theorem ok_iR1E (f : List T → Option (T × List T)) (γ : List T) (Q__ : List D × List T → Prop) : Ok (iR1E f γ) Q__ ↔ Ok ((f γ).bind fun q => match q.1 with
  | .d (.int n) => if -(2 ^ 62) ≤ n ∧ n < 2 ^ 62 then some (intsD 0 n.toNat, q.2) else none
  | _ => none) Q__ := Iff.rfl
@[simp ↓] theorem ok_iAnyE (f : List T → Option (T × List T)) (γ : List T) (Q__ : List D × List T → Prop) : Ok (iAnyE f γ) Q__ ↔ Ok ((f γ).bind fun q => q.1.toD.bind fun y => (walkD y).map fun ds => (ds, q.2)) Q__ := Iff.rfl
@[simp ↓] theorem ok_sFor (it : List T → Option (List D × List T)) (g : D → List T → Option (List T)) (b : List T → Option O) (γ : List T) (Q__ : O → Prop) : Ok (sFor it g b γ) Q__ ↔ Ok ((it γ).bind fun q => forS g b q.1 q.2) Q__ := Iff.rfl
@[simp ↓] theorem ok_fnF (np n : Nat) (wr : List Nat) (b : List T → Option O) (pre : List T) (Q__ : RF → Prop) : Ok (fnF np n wr b pre) Q__ ↔ Ok (if pre.length = np ∧ okW wr pre = true then (b (pre ++ List.replicate (n - pre.length) .em)).bind fun o => match o with
  | .rt r γ => some (.ret r (postP pre γ))
  | .nx γ => some (.ret (.d .non) (postP pre γ))
  | .xc C fs γ => some (.exc C fs (postP pre γ))
  | _ => none else none) Q__ := Iff.rfl
@[simp ↓] theorem ok_eLcO (vs : List Nat) (it : List T → Option (List D)) (g : D → List T → Option (List T)) (c : List T → Option Bool) (f : List T → Option D) (γ : List T) (Q__ : T × List T → Prop) : Ok (eLcO vs it g c f γ) Q__ ↔ Ok (if vs.all (isEm γ) = true then (it γ).bind fun ds => if ds.length < sizeLine then (lcP g c f γ ds).map fun zs => (.lst zs, γ) else none else none) Q__ := Iff.rfl
@[simp ↓] theorem ok_eLc (vs : List Nat) (it : List T → Option (List D × List T)) (g : D → List T → Option (List T)) (c : List T → Option (Bool × List T)) (f : List T → Option (T × List T)) (γ : List T) (Q__ : T × List T → Prop) : Ok (eLc vs it g c f γ) Q__ ↔ Ok (if vs.all (isEm γ) = true then (it γ).bind fun p => if vs.all (isEm p.2) = true ∧ p.1.length < sizeLine then (lcE vs g c f p.1 p.2).bind fun r => if vs.all (isEm r.2) = true then some (.lst r.1, r.2) else none else none else none) Q__ := Iff.rfl
@[simp ↓] theorem ok_lVar (i : Nat) (γ : List T) (Q__ : Nat × Pth → Prop) : Ok (lVar i γ) Q__ ↔ Ok (match γ[i]? with
  | some .em => none
  | some _ => some (i, [])
  | none => none) Q__ := Iff.rfl
@[simp ↓] theorem ok_cPl (l : List T → Option (Nat × Pth)) (γ : List T) (Q__ : D → Prop) : Ok (cPl l γ) Q__ ↔ Ok ((l γ).bind fun p => (gAt γ p.1 p.2).bind T.top) Q__ := Iff.rfl
@[simp ↓] theorem ok_sApp (l : List T → Option (Nat × Pth)) (f : List T → Option D) (γ : List T) (Q__ : O → Prop) : Ok (sApp l f γ) Q__ ↔ Ok ((l γ).bind fun p => (f γ).bind fun x => (gAt γ p.1 p.2).bind fun u => match u with
  | .lst ds => if ds.length < sizeLine then some (.nx (gPut γ p.1 p.2 (.lst (ds ++ [x])))) else none
  | _ => none) Q__ := Iff.rfl
@[simp ↓] theorem ok_sAppV (i : Nat) (f : List T → Option (T × List T)) (γ : List T) (Q__ : O → Prop) : Ok (sAppV i f γ) Q__ ↔ Ok (match γ[i]? with
  | some (.lst _) => (f γ).bind fun q => q.1.toD.bind fun x => (match q.2[i]? with
    | some (.lst ds) => if ds.length < sizeLine then some (.nx (q.2.set i (.lst (ds ++ [x])))) else none
    | _ => none)
  | _ => none) Q__ := Iff.rfl
@[simp ↓] theorem ok_sSetI (i : Nat) (f : List T → Option (T × List T)) (g : List T → Option D) (γ : List T) (Q__ : O → Prop) : Ok (sSetI i f g γ) Q__ ↔ Ok ((f γ).bind fun q => q.1.toD.bind fun x => match q.2[i]? with
  | some (.lst ds) => (g q.2).bind fun k => (match k with
    | .int k => (ixN ds.length k).map fun j => .nx (q.2.set i (.lst (ds.set j x)))
    | _ => none)
  | _ => none) Q__ := Iff.rfl
@[simp ↓] theorem ok_ePop (i : Nat) (f : List T → Option (T × List T)) (γ : List T) (Q__ : T × List T → Prop) : Ok (ePop i f γ) Q__ ↔ Ok (match γ[i]? with
  | some (.lst _) => (f γ).bind fun q => q.1.toD.bind fun x => match x, q.2[i]? with
    | .int j, some (.lst ds) => if -(2 ^ 63) ≤ j ∧ j < 2 ^ 63 then (seqIndex? j ds.length).bind fun k => (ds[k]?).map fun y => (.d y, q.2.set i (.lst (ds.eraseIdx k))) else none
    | _, _ => none
  | _ => none) Q__ := Iff.rfl
@[simp ↓] theorem ok_eJoin (f : List T → Option D) (g : List T → Option (T × List T)) (γ : List T) (Q__ : T × List T → Prop) : Ok (eJoin f g γ) Q__ ↔ Ok ((f γ).bind fun x => (g γ).bind fun q => q.1.toD.bind fun y => (oJoin x y).map fun z => (.d z, q.2)) Q__ := Iff.rfl
@[simp ↓] theorem ok_pFld (C : Addr) (ns : List Str) (i : Nat) (g : List T → Option D) (γ : List T) (Q__ : D → Prop) : Ok (pFld C ns i g γ) Q__ ↔ Ok ((g γ).bind fun x => match x with
  | .ins C' ns' ds => if C' = C ∧ ns' = ns then ds[i]? else none
  | _ => none) Q__ := Iff.rfl
@[simp ↓] theorem ok_cFldL (C : Addr) (ns : List Str) (i : Nat) (l : List T → Option (Nat × Pth)) (γ : List T) (Q__ : D → Prop) : Ok (cFldL C ns i l γ) Q__ ↔ Ok ((l γ).bind fun p => match gAt γ p.1 p.2 with
  | some (.obj C' ns' ts) => if C' = C ∧ ns' = ns then (ts[i]?).bind T.top else none
  | some (.d (.ins C' ns' ds)) => if C' = C ∧ ns' = ns then ds[i]? else none
  | _ => none) Q__ := Iff.rfl
@[simp ↓] theorem ok_pFldL (C : Addr) (ns : List Str) (i : Nat) (l : List T → Option (Nat × Pth)) (γ : List T) (Q__ : D → Prop) : Ok (pFldL C ns i l γ) Q__ ↔ Ok ((l γ).bind fun p => match gAt γ p.1 p.2 with
  | some (.obj C' ns' ts) => if C' = C ∧ ns' = ns then (match ts[i]? with
    | some (.d x) => some x
    | _ => none) else none
  | some (.d (.ins C' ns' ds)) => if C' = C ∧ ns' = ns then ds[i]? else none
  | _ => none) Q__ := Iff.rfl
@[simp ↓] theorem ok_lFld (C : Addr) (ns : List Str) (i : Nat) (l : List T → Option (Nat × Pth)) (γ : List T) (Q__ : Nat × Pth → Prop) : Ok (lFld C ns i l γ) Q__ ↔ Ok ((l γ).bind fun p => match gAt γ p.1 p.2 with
  | some (.obj C' ns' ts) => if C' = C ∧ ns' = ns then (match ts[i]? with
    | some .em => none
    | some _ => some (p.1, p.2 ++ [i])
    | none => none) else none
  | _ => none) Q__ := Iff.rfl
@[simp ↓] theorem ok_eMeth (C : Addr) (ns : List Str) (g : FN) (i : Nat) (bs : List (Option Nat)) (a : List T → Option (List T × List T)) (γ : List T) (Q__ : T × List T → Prop) : Ok (eMeth C ns g i bs a γ) Q__ ↔ Ok (match γ[i]? with
  | some (.obj C' ns' _) => if C' = C ∧ ns' = ns then (a γ).bind fun q => callF g (some i :: bs) (.em :: q.1) q.2 else none
  | some (.d (.ins C' ns' _)) => if C' = C ∧ ns' = ns then (a γ).bind fun q => callF g (some i :: bs) (.em :: q.1) q.2 else none
  | _ => none) Q__ := Iff.rfl
@[simp ↓] theorem ok_eMake (C : Addr) (g : FN) (P : List (Option D)) (bs : List (Option Nat)) (a : List T → Option (List T × List T)) (γ : List T) (Q__ : T × List T → Prop) : Ok (eMake C g P bs a γ) Q__ ↔ Ok ((a γ).bind fun q => if bs.length = holes P ∧ q.1.length = holes P then makeF C g (weave (fun _ => none) P bs) (weave (fun x => .d x) P q.1) q.2 else none) Q__ := Iff.rfl
@[simp ↓] theorem ok_sFldO (C : Addr) (i : Nat) (f : Str) (g : List T → Option (T × List T)) (γ : List T) (Q__ : O → Prop) : Ok (sFldO C i f g γ) Q__ ↔ Ok ((g γ).bind fun q => match q.2[i]? with
  | some (.obj C' ns ts) => if C' = C ∧ ns.length < 1000 then some (.nx (q.2.set i (.obj C' (putN f ns) (putTs f q.1 ns ts)))) else none
  | _ => none) Q__ := Iff.rfl
@[simp ↓] theorem ok_xOk (f : List T → Option (T × List T)) (γ : List T) (Q__ : EO → Prop) : Ok (xOk f γ) Q__ ↔ Ok ((f γ).map fun q => .ok q.1 q.2) Q__ := Iff.rfl
@[simp ↓] theorem ok_xCall (g : FN) (bs : List (Option Nat)) (a : List T → Option (List T × List T)) (γ : List T) (Q__ : EO → Prop) : Ok (xCall g bs a γ) Q__ ↔ Ok ((a γ).bind fun q => callX g bs q.1 q.2) Q__ := Iff.rfl
@[simp ↓] theorem ok_xMake (C : Addr) (g : FN) (P : List (Option D)) (bs : List (Option Nat)) (a : List T → Option (List T × List T)) (γ : List T) (Q__ : EO → Prop) : Ok (xMake C g P bs a γ) Q__ ↔ Ok ((a γ).bind fun q => if bs.length = holes P ∧ q.1.length = holes P then makeX C g (weave (fun _ => none) P bs) (weave (fun x => .d x) P q.1) q.2 else none) Q__ := Iff.rfl
@[simp ↓] theorem ok_sExprX (f : List T → Option EO) (γ : List T) (Q__ : O → Prop) : Ok (sExprX f γ) Q__ ↔ Ok ((f γ).map fun q => match q with
  | .ok _ γ' => .nx γ'
  | .xc C fs γ' => .xc C fs γ') Q__ := Iff.rfl
@[simp ↓] theorem ok_sAsgX (i : Nat) (f : List T → Option EO) (γ : List T) (Q__ : O → Prop) : Ok (sAsgX i f γ) Q__ ↔ Ok ((f γ).map fun q => match q with
  | .ok t γ' => .nx (γ'.set i t)
  | .xc C fs γ' => .xc C fs γ') Q__ := Iff.rfl
@[simp ↓] theorem ok_sRetX (f : List T → Option EO) (γ : List T) (Q__ : O → Prop) : Ok (sRetX f γ) Q__ ↔ Ok ((f γ).map fun q => match q with
  | .ok t γ' => .rt t γ'
  | .xc C fs γ' => .xc C fs γ') Q__ := Iff.rfl
@[simp ↓] theorem ok_sRaise (C : Addr) (ns : List Str) (a : List T → Option (List D)) (γ : List T) (Q__ : O → Prop) : Ok (sRaise C ns a γ) Q__ ↔ Ok ((a γ).bind fun xs => if xs.length = ns.length ∧ xs.length ≤ 1000 then some (.xc C (ns.zip xs).reverse γ) else none) Q__ := Iff.rfl
@[simp ↓] theorem ok_sTryO (cs : List (Addr × Bool)) (fb fh : List T → Option O) (γ : List T) (Q__ : O → Prop) : Ok (sTryO cs fb fh γ) Q__ ↔ Ok ((fb γ).bind fun o => match o with
  | .xc C fs γ1 => match cs.lookup C with
    | some true => fh γ1
    | some false => some (.xc C fs γ1)
    | none => none
  | o => some o) Q__ := Iff.rfl
@[simp ↓] theorem ok_sTryA (cs : List (Addr × Bool)) (i : Nat) (fb : List T → Option O) (fh : Addr → List (Str × D) → List T → Option O) (γ : List T) (Q__ : O → Prop) : Ok (sTryA cs i fb fh γ) Q__ ↔ Ok ((fb γ).bind fun o => match o with
  | .xc C fs γ1 => match cs.lookup C with
    | some true => if i < γ1.length then (fh C fs (γ1.set i .em)).bind (oCl i) else none
    | some false => some (.xc C fs γ1)
    | none => none
  | o => some o) Q__ := Iff.rfl
@[simp ↓] theorem ok_hAsg (C : Addr) (j : Nat) (f : Str) (C' : Addr) (fs : List (Str × D)) (γ : List T) (Q__ : O → Prop) : Ok (hAsg C j f C' fs γ) Q__ ↔ Ok (if C' = C then (fs.lookup f).map fun x => .nx (γ.set j (.d x)) else none) Q__ := Iff.rfl
@[simp ↓] theorem ok_hRet (C : Addr) (f : Str) (C' : Addr) (fs : List (Str × D)) (γ : List T) (Q__ : O → Prop) : Ok (hRet C f C' fs γ) Q__ ↔ Ok (if C' = C then (fs.lookup f).map fun x => .rt (.d x) γ else none) Q__ := Iff.rfl
@[simp ↓] theorem ok_hSeq (fh : Addr → List (Str × D) → List T → Option O) (g : List T → Option O) (C : Addr) (fs : List (Str × D)) (γ : List T) (Q__ : O → Prop) : Ok (hSeq fh g C fs γ) Q__ ↔ Ok ((fh C fs γ).bind fun o => match o with
  | .nx γ1 => g γ1
  | o => some o) Q__ := Iff.rfl
@[simp ↓] theorem ok_sNoX (f : List T → Option O) (γ : List T) (Q__ : O → Prop) : Ok (sNoX f γ) Q__ ↔ Ok ((f γ).bind fun o => match o with
  | .xc _ _ _ => none
  | o => some o) Q__ := Iff.rfl
@[simp ↓] theorem ok_sTryH (l : HdF) (fb : List T → Option O) (γ : List T) (Q__ : O → Prop) : Ok (sTryH l fb γ) Q__ ↔ Ok ((fb γ).bind fun o => match o with
  | .xc C fs γ1 => hRun l C fs γ1
  | o => some o) Q__ := Iff.rfl
@[simp ↓] theorem ok_pRep (g : List T → Option (List D)) (f : List T → Option D) (γ : List T) (Q__ : D → Prop) : Ok (pRep g f γ) Q__ ↔ Ok ((g γ).bind fun xs => (f γ).bind fun y => match y with
  | .int k => if xs.length ≤ sizeLine ∧ k ≤ 1000000 ∧ -1000000 ≤ k ∧ xs.length * k.toNat ≤ sizeLine then some (.lst (List.replicate k.toNat xs).flatten) else none
  | _ => none) Q__ := Iff.rfl
@[simp ↓] theorem ok_iR3 (f g h : List T → Option D) (γ : List T) (Q__ : List D → Prop) : Ok (iR3 f g h γ) Q__ ↔ Ok ((f γ).bind fun x => (g γ).bind fun y => (h γ).bind fun z => match x, y, z with
  | .int i, .int j, .int c => if c ≠ 0 ∧ c.natAbs < 1073741824 ∧ Builtin.Range.small i j c = true then some ((List.range (Builtin.Range.rangeSize i j c).toNat).map fun k => .int (i + (k : Nat) * c)) else none
  | _, _, _ => none) Q__ := Iff.rfl
@[simp ↓] theorem ok_pGet2 (f g h : List T → Option D) (γ : List T) (Q__ : D → Prop) : Ok (pGet2 f g h γ) Q__ ↔ Ok ((f γ).bind fun x => (g γ).bind fun y => (h γ).bind fun z => match x with
  | .dic ks ds => (toK y).map fun k => (atK ks ds k).getD z
  | _ => none) Q__ := Iff.rfl
@[simp ↓] theorem ok_eListD (f : List T → Option D) (γ : List T) (Q__ : T × List T → Prop) : Ok (eListD f γ) Q__ ↔ Ok ((f γ).bind fun x => match x with
  | .dic ks _ => some (.lst (ks.map ofK), γ)
  | _ => none) Q__ := Iff.rfl
@[simp ↓] theorem ok_iEnE (f : List T → Option (T × List T)) (γ : List T) (Q__ : List D × List T → Prop) : Ok (iEnE f γ) Q__ ↔ Ok ((f γ).bind fun q => q.1.toD.bind fun y => match y with
  | .lst ds => some (enumD ds, q.2)
  | _ => none) Q__ := Iff.rfl
@[simp ↓] theorem ok_sDPutV (i : Nat) (f : List T → Option (T × List T)) (g : List T → Option D) (γ : List T) (Q__ : O → Prop) : Ok (sDPutV i f g γ) Q__ ↔ Ok ((f γ).bind fun q => q.1.toD.bind fun x => match q.2[i]? with
  | some (.dic ks ts) => (g q.2).bind fun y => (toK y).bind fun k => if ks.length < sizeLine then some (.nx (q.2.set i (.dic (putKs ks k) (putTsK ks ts k (.d x))))) else none
  | _ => none) Q__ := Iff.rfl
@[simp ↓] theorem ok_eDisp (ps : PF) (γ : List T) (Q__ : T × List T → Prop) : Ok (eDisp ps γ) Q__ ↔ Ok ((evP ps γ).bind fun ds => if (ps.map fun p => (Sum.inr p.1 : Key)).Nodup ∧ ps.length ≤ 15 then some (.dic (ps.map fun p => .inr p.1) (ds.map .d), γ) else none) Q__ := Iff.rfl
@[simp ↓] theorem ok_bTr (f : List T → Option D) (γ : List T) (Q__ : Bool → Prop) : Ok (bTr f γ) Q__ ↔ Ok ((f γ).bind fun x => match x with
  | .bl b => some b
  | .lst ds => some (!ds.isEmpty)
  | .tup ds => some (!ds.isEmpty)
  | .non => some false
  | _ => none) Q__ := Iff.rfl
@[simp ↓] theorem ok_eCat (f g : List T → Option D) (γ : List T) (Q__ : T × List T → Prop) : Ok (eCat f g γ) Q__ ↔ Ok ((f γ).bind fun x => (g γ).bind fun y => match x, y with
  | .lst a, .lst b => if a.length + b.length ≤ sizeLine then some (.lst (a ++ b), γ) else none
  | _, _ => none) Q__ := Iff.rfl
@[simp ↓] theorem ok_gLs (n : Nat) (g : List D → List T → Option (List T)) (x : D) (γ : List T) (Q__ : List T → Prop) : Ok (gLs n g x γ) Q__ ↔ Ok (match x with
  | .lst ds => if ds.length = n then g ds γ else none
  | _ => none) Q__ := Iff.rfl
@[simp ↓] theorem ok_pLcW (vs : List Nat) (it : List T → Option (List D)) (g : D → List T → Option (List T)) (c : List T → Option Bool) (f : List T → Option D) (γ : List T) (Q__ : D → Prop) : Ok (pLcW vs it g c f γ) Q__ ↔ Ok (if vs.all (isDE γ) = true then (it γ).bind fun ds => if ds.length < sizeLine then (lcP g c f (unset vs γ) ds).map .lst else none else none) Q__ := Iff.rfl
@[simp ↓] theorem ok_eLcW (vs : List Nat) (it : List T → Option (List D × List T)) (g : D → List T → Option (List T)) (c : List T → Option (Bool × List T)) (f : List T → Option (T × List T)) (γ : List T) (Q__ : T × List T → Prop) : Ok (eLcW vs it g c f γ) Q__ ↔ Ok (if vs.Nodup then (it γ).bind fun p => if vs.all (isDE p.2) = true ∧ p.1.length < sizeLine then (lcE vs g c f p.1 (unset vs p.2)).bind fun r => if vs.all (isEm r.2) = true then some (.lst r.1, resto vs p.2 r.2) else none else none else none) Q__ := Iff.rfl
@[simp ↓] theorem ok_callF (g : FN) (bs : List (Option Nat)) (ts γ : List T) (Q : T × List T → Prop) : Ok (callF g bs ts γ) Q ↔ Ok (takeArgs bs ts γ) fun p => Ok (g p.1) fun o => RetK o fun r post => post.length = p.1.length ∧ Ok (backArgs bs p.1 post p.2) fun γ2 => Q (r, γ2) := by
  unfold callF
  rw [ok_bind]
  refine iff_of_eq (congrArg (Ok _) (funext fun p => propext ?_))
  cases g p.1 with
  | none => simp
  | some o => cases o <;> simp
@[simp ↓] theorem ok_callX (g : FN) (bs : List (Option Nat)) (ts γ : List T) (Q : EO → Prop) : Ok (callX g bs ts γ) Q ↔ Ok (takeArgs bs ts γ) fun p => Ok (g p.1) fun o => RexK o (fun r post => post.length = p.1.length ∧ Ok (backArgs bs p.1 post p.2) fun γ2 => Q (.ok r γ2)) fun C fs post => post.length = p.1.length ∧ Ok (backArgs bs p.1 post p.2) fun γ2 => Q (.xc C fs γ2) := by
  unfold callX
  rw [ok_bind]
  refine iff_of_eq (congrArg (Ok _) (funext fun p => propext ?_))
  cases g p.1 with
  | none => simp
  | some o => cases o <;> simp
@[simp ↓] theorem ok_pCall (g : FN) (a : List T → Option (List D)) (γ : List T) (Q : D → Prop) : Ok (pCall g a γ) Q ↔ Ok (a γ) fun xs => Ok (g (xs.map .d)) fun o => RetK o fun r _ => Ok r.toD Q := by
  unfold pCall
  rw [ok_bind]
  refine iff_of_eq (congrArg (Ok _) (funext fun p => propext ?_))
  cases g (p.map .d) with
  | none => simp
  | some o => cases o <;> simp
@[simp ↓] theorem ok_pMeth (C : Addr) (ns : List Str) (g : FN) (f : List T → Option D) (a : List T → Option (List D)) (γ : List T) (Q : D → Prop) : Ok (pMeth C ns g f a γ) Q ↔ Ok (f γ) fun x => Ok (match x with
    | .ins C' ns' ds => if C' = C ∧ ns' = ns then some ds else none
    | _ => none) fun ds => Ok (a γ) fun xs => Ok (g (.d (.ins C ns ds) :: xs.map .d)) fun o => RetK o fun r _ => Ok r.toD Q := by
  unfold pMeth
  rw [ok_bind]
  refine iff_of_eq (congrArg (Ok _) (funext fun x => propext ?_))
  cases x with
  | ins C' ns' ds =>
    simp only [ok_iteN, ok_bind, ok_some]
    refine and_congr_right fun ⟨h1, h2⟩ => ?_
    subst h1 h2
    refine iff_of_eq (congrArg (Ok _) (funext fun p => propext ?_))
    cases g (.d (.ins C' ns' ds) :: p.map .d) with
    | none => simp
    | some o => cases o <;> simp
  | _ => simp
@[simp ↓] theorem ok_eMethL (C : Addr) (ns : List Str) (g : FN) (l : List T → Option (Nat × Pth)) (a : List T → Option (List D)) (γ : List T) (Q : T × List T → Prop) : Ok (eMethL C ns g l a γ) Q ↔ Ok (l γ) fun p => Ok (match gAt γ p.1 p.2 with
    | some (.obj C' ns' ts) => if C' = C ∧ ns' = ns then some ts else none
    | _ => none) fun ts => Ok (a γ) fun xs => Ok (g (.obj C ns ts :: xs.map .d)) fun o => RetK o fun r post => Ok (match post with
    | .em :: _ => none
    | u :: _ => some u
    | [] => none) fun u => Ok r.toD fun y => Q (.d y, gPut γ p.1 p.2 u) := by
  unfold eMethL
  rw [ok_bind]
  refine iff_of_eq (congrArg (Ok _) (funext fun x => propext ?_))
  cases gAt γ x.1 x.2 with
  | none => simp
  | some t => cases t with
    | obj C' ns' ts =>
      simp only [ok_iteN, ok_bind, ok_some]
      refine and_congr_right fun ⟨h1, h2⟩ => ?_
      subst h1 h2
      refine iff_of_eq (congrArg (Ok _) (funext fun p => propext ?_))
      cases g (.obj C' ns' ts :: p.map .d) with
      | none => simp
      | some o => cases o with
        | exc => simp
        | ret r post => cases post with
          | nil => simp
          | cons u post => cases u <;> simp
    | _ => simp
@[simp ↓] theorem ok_makeF (C : Addr) (g : FN) (bs : List (Option Nat)) (ts γ : List T) (Q : T × List T → Prop) : Ok (makeF C g bs ts γ) Q ↔ Ok (callF g (some 0 :: bs.map (Option.map (· + 1))) (.em :: ts) (.obj C [] [] :: γ)) fun q => Ok (match q with
  | (.d .non, o :: γ') => some (o, γ')
  | _ => none) Q := by
  unfold makeF
  rw [ok_bind]
  try exact Iff.rfl
@[simp ↓] theorem ok_makeX (C : Addr) (g : FN) (bs : List (Option Nat)) (ts γ : List T) (Q : EO → Prop) : Ok (makeX C g bs ts γ) Q ↔ Ok (callX g (some 0 :: bs.map (Option.map (· + 1))) (.em :: ts) (.obj C [] [] :: γ)) fun q => Ok (match q with
  | .ok (.d .non) (o :: γ') => some (.ok o γ')
  | .xc X fs (_ :: γ') => some (.xc X fs γ')
  | _ => none) Q := by
  unfold makeX
  rw [ok_bind]
  try exact Iff.rfl
@[simp ↓] theorem ok_oOwnEq (C : Addr) (g : FN) (ns : List Str) (ds : List D) (y : D) (Q : D → Prop) : Ok (oOwnEq C g (.ins C ns ds) y) Q ↔ besideD C y = true ∧ Ok (g [.d (.ins C ns ds), .d y]) fun o => RetK o fun r _ => Ok (match r with
    | .d (.bl b) => some (.bl b)
    | _ => none) Q := by
  show Ok (if C = C ∧ besideD C y = true then _ else none) Q ↔ _
  rw [ok_iteN]
  simp only [true_and]
  refine and_congr_right fun _ => ?_
  cases g [.d (.ins C ns ds), .d y] with
  | none => simp
  | some o => cases o with
    | exc => simp
    | ret r p => cases r with
      | d x => cases x <;> simp
      | _ => simp
@[simp ↓] theorem ok_oOwnNe (C : Addr) (g : FN) (x y : D) (Q : D → Prop) : Ok (oOwnNe C g x y) Q ↔ Ok (oOwnEq C g x y) fun z => Ok (match z with
  | .bl b => some (.bl (!b))
  | _ => none) Q := by
  unfold oOwnNe
  rw [ok_bind]
  try exact Iff.rfl
@[simp ↓] theorem ok_oStrOwn (C : Addr) (g : FN) (ns : List Str) (ds : List D) (Q : D → Prop) : Ok (oStrOwn C g (.ins C ns ds)) Q ↔ Ok (g [.d (.ins C ns ds)]) fun o => RetK o fun r _ => Ok (match r with
    | .d (.str y) => some (.str y)
    | _ => none) Q := by
  show Ok (if C = C then _ else none) Q ↔ _
  rw [ok_iteN]
  simp only [true_and]
  cases g [.d (.ins C ns ds)] with
  | none => simp
  | some o => cases o with
    | exc => simp
    | ret r p => cases r with
      | d x => cases x <;> simp
      | _ => simp
/-- a walk by an invariant; Z says what an early end must hold -/
theorem ok_forS {α : Type} {enc : α → D} {g : D → List T → Option (List T)} {b : List T → Option O} (Inv : Nat → List T → Prop) {Q : O → Prop} : ∀ (xs : List α) (k : Nat) (γ : List T), Inv k γ →
    (∀ i (h : i < xs.length) γ, Inv (k + i) γ → Ok (g (enc xs[i]) γ) fun γ1 => Ok (b γ1) fun o => match o with
      | .nx γ2 => Inv (k + i + 1) γ2
      | .ct γ2 => Inv (k + i + 1) γ2
      | .bk γ2 => Q (.nx γ2)
      | o => Q o) → (∀ γ, Inv (k + xs.length) γ → Q (.nx γ)) → Ok (forS g b (xs.map enc) γ) Q
  | [], k, γ, h0, _, he => Ok.of rfl (he γ h0)
  | x :: xs, k, γ, h0, hs, he => by
    obtain ⟨γ1, e1, h⟩ := hs 0 (by simp) γ h0
    obtain ⟨o, e2, h⟩ := h
    rw [List.map_cons]
    unfold forS
    have e1' : g (enc x) γ = some γ1 := e1
    rw [e1', Option.bind_some, e2, Option.bind_some]
    have rest : ∀ γ2, Inv (k + 1) γ2 → Ok (forS g b (xs.map enc) γ2) Q := fun γ2 h2 => ok_forS Inv xs (k + 1) γ2 h2 (fun i hi γ hI => by
      have := hs (i + 1) (by simp; omega) γ (by rw [show k + (i + 1) = k + 1 + i from by omega]; exact hI)
      rw [show k + (i + 1) + 1 = k + 1 + i + 1 from by omega] at this
      exact this) fun γ hI => he γ (by rw [List.length_cons, show k + (xs.length + 1) = k + 1 + xs.length from by omega]; exact hI)
    cases o with
    | nx γ2 => exact rest γ2 h
    | ct γ2 => exact rest γ2 h
    | bk γ2 => exact Ok.of rfl h
    | rt r γ2 => exact Ok.of rfl h
    | xc C fs γ2 => exact Ok.of rfl h
/-- from the beginning -/
theorem ok_for {α : Type} {enc : α → D} {g : D → List T → Option (List T)} {b : List T → Option O} {xs : List α} {γ : List T} {Q : O → Prop} (Inv : Nat → List T → Prop) (h0 : Inv 0 γ)
    (hs : ∀ i (h : i < xs.length) γ, Inv i γ → Ok (g (enc xs[i]) γ) fun γ1 => Ok (b γ1) fun o => match o with
      | .nx γ2 => Inv (i + 1) γ2
      | .ct γ2 => Inv (i + 1) γ2
      | .bk γ2 => Q (.nx γ2)
      | o => Q o) (he : ∀ γ, Inv xs.length γ → Q (.nx γ)) : Ok (forS g b (xs.map enc) γ) Q :=
  ok_forS Inv xs 0 γ h0 (fun i hi γ hI => by
    rw [Nat.zero_add] at hI
    have := hs i hi γ hI
    rw [Nat.zero_add]
    exact this) fun γ hI => he γ (by rwa [Nat.zero_add] at hI)
/-- comprehensions without effects: those with p, mapped by w -/
theorem ok_lcP {α : Type} {enc : α → D} {g : D → List T → Option (List T)} {c : List T → Option Bool} {f : List T → Option D} {γ : List T} {xs : List α} {Q : List D → Prop} (p : α → Bool) (w : α → D)
    (h : ∀ x ∈ xs, Ok (g (enc x) γ) fun γ1 => Ok (c γ1) fun b => b = p x ∧ (p x = true → Ok (f γ1) fun y => y = w x)) (he : Q ((xs.filter p).map w)) : Ok (lcP g c f γ (xs.map enc)) Q := by
  refine Ok.of ?_ he
  clear he
  induction xs with
  | nil => rfl
  | cons x xs ih =>
    obtain ⟨γ1, e1, b, e2, rfl, h3⟩ := h x (by simp)
    rw [List.map_cons]
    unfold lcP
    rw [e1, Option.bind_some, e2, Option.bind_some, ih fun y m => h y (by simp [m])]
    cases hp : p x with
    | true =>
      obtain ⟨y, e3, rfl⟩ := h3 hp
      simp [e3, hp]
    | false => simp [hp]
theorem ok_lcM {α : Type} {enc : α → D} {g : D → List T → Option (List T)} {f : List T → Option D} {γ : List T} {xs : List α} {Q : List D → Prop} (w : α → D)
    (h : ∀ x ∈ xs, Ok (g (enc x) γ) fun γ1 => Ok (f γ1) fun y => y = w x) (he : Q (xs.map w)) : Ok (lcP g bYes f γ (xs.map enc)) Q :=
  ok_lcP (fun _ => true) w (fun x m => (h x m).mono fun γ1 h => Ok.of rfl ⟨rfl, fun _ => h⟩) (by rwa [List.filter_eq_self.mpr (by simp)])
/-- comprehensions with effects: what is told of each item and the state -/
theorem ok_lcE {α : Type} {enc : α → D} {vs : List Nat} {g : D → List T → Option (List T)} {c : List T → Option (Bool × List T)} {f : List T → Option (T × List T)} (Inv : List T → Prop) (R : α → D → Prop) {Q : List D × List T → Prop} : ∀ (xs : List α) (γ : List T), Inv γ →
    (∀ x ∈ xs, ∀ γ, Inv γ → Ok (g (enc x) γ) fun γ1 => Ok (c γ1) fun p => p.1 = true ∧ Ok (f p.2) fun q => Ok q.1.toD fun y => R x y ∧ Inv (unset vs q.2)) →
    (∀ ys γ, ys.length = xs.length → (∀ i (h : i < xs.length) (h2 : i < ys.length), R xs[i] ys[i]) → Inv γ → Q (ys, γ)) → Ok (lcE vs g c f (xs.map enc) γ) Q
  | [], γ, hI, _, he => Ok.of rfl (he [] γ rfl (fun i h => absurd h (by simp)) hI)
  | x :: xs, γ, hI, hs, he => by
    obtain ⟨γ1, e1, p, e2, hp, q, e3, y, e4, hR, hI2⟩ := hs x (by simp) γ hI
    rw [List.map_cons]
    unfold lcE
    rw [e1, Option.bind_some, e2, Option.bind_some, if_pos hp, e3, Option.bind_some, e4, Option.bind_some]
    rw [ok_map]
    refine ok_lcE Inv R xs _ hI2 (fun x m => hs x (by simp [m])) fun ys γ hl hr hI3 => he (y :: ys) γ (by simp [hl]) (fun i h1 h2 => ?_) hI3
    cases i with
    | zero => exact hR
    | succ i => exact hr i (by simpa using h1) (by simpa using h2)
end FD
namespace FD.FDW
open PySem PySem.Spec PyProof.Rows L2
@[scoped simp] theorem gNl_nil (γ : List T) : gNl [] γ = some γ := rfl
@[scoped simp] theorem gCn_cons (f : D → List T → Option (List T)) (g : List D → List T → Option (List T)) (x : D) (xs : List D) (γ : List T) : gCn f g (x :: xs) γ = (f x γ).bind fun γ1 => g xs γ1 := rfl
@[scoped simp] theorem gTp_tup (n : Nat) (g : List D → List T → Option (List T)) (ds : List D) (γ : List T) : gTp n g (.tup ds) γ = if ds.length = n then g ds γ else none := rfl
@[scoped simp] theorem forS_nil (g : D → List T → Option (List T)) (b : List T → Option O) (γ : List T) : forS g b [] γ = some (.nx γ) := rfl
@[scoped simp] theorem lcP_nil (g : D → List T → Option (List T)) (c : List T → Option Bool) (f : List T → Option D) (γ : List T) : lcP g c f γ [] = some [] := rfl
@[scoped simp] theorem lcE_nil (vs : List Nat) (g : D → List T → Option (List T)) (c : List T → Option (Bool × List T)) (f : List T → Option (T × List T)) (γ : List T) : lcE vs g c f [] γ = some ([], γ) := rfl
@[scoped simp] theorem top_d (x : D) : T.top (.d x) = some x := rfl
@[scoped simp] theorem top_lst (x : List D) : T.top (.lst x) = some (.lst x) := rfl
@[scoped simp] theorem toD_d (x : D) : T.toD (.d x) = some x := by simp [T.toD]
@[scoped simp] theorem toD_lst (x : List D) : T.toD (.lst x) = some (.lst x) := by simp [T.toD]
@[scoped simp] theorem toDs_nil : T.toDs [] = some [] := by simp [T.toDs]
@[scoped simp] theorem toDs_cons (t : T) (ts : List T) : T.toDs (t :: ts) = match t.toD, T.toDs ts with
    | some x, some xs => some (x :: xs)
    | _, _ => none := by first | (rw [T.toDs]; done) | (rw [T.toDs]; cases t.toD <;> cases T.toDs ts <;> rfl)
@[scoped simp] theorem toD_obj (C : Addr) (ns : List Str) (ts : List T) : T.toD (.obj C ns ts) = (T.toDs ts).map (.ins C ns) := by simp [T.toD]
@[scoped simp] theorem toD_dic (ks : List Key) (ts : List T) : T.toD (.dic ks ts) = (T.toDs ts).map (.dic ks) := by simp [T.toD]
@[scoped simp] theorem resI_nil : resI [] [] = some [] := rfl
@[scoped simp] theorem resI_none (bs : List (Option Nat)) (t : T) (ts : List T) : resI (none :: bs) (t :: ts) = t.toD.bind fun x => (resI bs ts).map (x :: ·) := rfl
@[scoped simp] theorem resA_nil (γ : List T) : resA γ [] [] = some [] := rfl
@[scoped simp] theorem resA_none (γ : List T) (bs : List (Option Nat)) (t : T) (ts : List T) : resA γ (none :: bs) (t :: ts) = t.toD.bind fun x => (resA γ bs ts).map (x :: ·) := rfl
@[scoped simp] theorem resA_some (γ : List T) (i : Nat) (bs : List (Option Nat)) (t : T) (ts : List T) : resA γ (some i :: bs) (t :: ts) = ((γ[i]?).bind T.top).bind fun x => (resA γ bs ts).map (x :: ·) := rfl
@[scoped simp] theorem takeArgs_nil (γ : List T) : takeArgs [] [] γ = some ([], γ) := rfl
@[scoped simp] theorem takeArgs_none (bs : List (Option Nat)) (t : T) (ts γ : List T) : takeArgs (none :: bs) (t :: ts) γ = (takeArgs bs ts γ).map fun q => (t :: q.1, q.2) := rfl
@[scoped simp] theorem takeArgs_some (i : Nat) (bs : List (Option Nat)) (t : T) (ts γ : List T) : takeArgs (some i :: bs) (t :: ts) γ = match γ[i]? with
    | some (.d x) => (takeArgs bs ts γ).map fun q => (.d x :: q.1, q.2)
    | some .em => none
    | some t => (takeArgs bs ts (γ.set i .em)).map fun q => (t :: q.1, q.2)
    | none => none := rfl
@[scoped simp] theorem backArgs_nil (γ : List T) : backArgs [] [] [] γ = some γ := rfl
@[scoped simp] theorem backArgs_none (bs : List (Option Nat)) (p q : T) (ps qs γ : List T) : backArgs (none :: bs) (p :: ps) (q :: qs) γ = backArgs bs ps qs γ := rfl
@[scoped simp] theorem backArgs_d (i : Nat) (bs : List (Option Nat)) (x : D) (q : T) (ps qs γ : List T) : backArgs (some i :: bs) (.d x :: ps) (q :: qs) γ = backArgs bs ps qs γ := rfl
@[scoped simp] theorem backArgs_lst (i : Nat) (bs : List (Option Nat)) (x : List D) (q : T) (ps qs γ : List T) : backArgs (some i :: bs) (.lst x :: ps) (q :: qs) γ = backArgs bs ps qs (γ.set i q) := rfl
@[scoped simp] theorem backArgs_dic (i : Nat) (bs : List (Option Nat)) (ks : List Key) (x : List T) (q : T) (ps qs γ : List T) : backArgs (some i :: bs) (.dic ks x :: ps) (q :: qs) γ = backArgs bs ps qs (γ.set i q) := rfl
@[scoped simp] theorem backArgs_obj (i : Nat) (bs : List (Option Nat)) (C : Addr) (ks : List Str) (x : List T) (q : T) (ps qs γ : List T) : backArgs (some i :: bs) (.obj C ks x :: ps) (q :: qs) γ = backArgs bs ps qs (γ.set i q) := rfl
@[scoped simp] theorem callF_app (g : FN) (bs : List (Option Nat)) (ts γ : List T) : callF g bs ts γ = (takeArgs bs ts γ).bind fun p => match g p.1 with
  | some (.ret r post) => if post.length = p.1.length then (backArgs bs p.1 post p.2).map fun γ2 => (r, γ2) else none
  | _ => none := rfl
@[scoped simp] theorem postP_nil (γ : List T) : postP [] γ = [] := by cases γ <;> rfl
@[scoped simp] theorem postP_d (x : D) (t : T) (ps γ : List T) : postP (.d x :: ps) (t :: γ) = .d x :: postP ps γ := rfl
@[scoped simp] theorem postP_lst (x : List D) (t : T) (ps γ : List T) : postP (.lst x :: ps) (t :: γ) = t :: postP ps γ := rfl
@[scoped simp] theorem postP_dic (ks : List Key) (x : List T) (t : T) (ps γ : List T) : postP (.dic ks x :: ps) (t :: γ) = t :: postP ps γ := rfl
@[scoped simp] theorem postP_obj (C : Addr) (ks : List Str) (x : List T) (t : T) (ps γ : List T) : postP (.obj C ks x :: ps) (t :: γ) = t :: postP ps γ := rfl
@[scoped simp] theorem okW_nil (pre : List T) : okW [] pre = true := rfl
@[scoped simp] theorem okW_cons (i : Nat) (wr : List Nat) (pre : List T) : okW (i :: wr) pre = ((match pre[i]? with
  | some t => t.isD
  | none => true) && okW wr pre) := rfl
@[scoped simp] theorem isD_d (x : D) : T.isD (.d x) = true := rfl
@[scoped simp] theorem unset_nil (γ : List T) : unset [] γ = γ := rfl
@[scoped simp] theorem unset_cons (k : Nat) (vs : List Nat) (γ : List T) : unset (k :: vs) γ = (unset vs γ).set k .em := rfl
@[scoped simp] theorem isEm_app (γ : List T) (k : Nat) : isEm γ k = match γ[k]? with
  | some .em => true
  | none => true
  | _ => false := rfl
@[scoped simp] theorem oAdd_i (i j : Int) : oAdd (.int i) (.int j) = some (.int (i + j)) := rfl
@[scoped simp] theorem oAdd_s (a b : Str) : oAdd (.str a) (.str b) = if a.length + b.length ≤ sizeLine then some (.str (a ++ b)) else none := rfl
@[scoped simp] theorem oAdd_l (a b : List D) : oAdd (.lst a) (.lst b) = if a.length + b.length ≤ sizeLine then some (.lst (a ++ b)) else none := rfl
@[scoped simp] theorem oAdd_t (a b : List D) : oAdd (.tup a) (.tup b) = if a.length + b.length ≤ sizeLine then some (.tup (a ++ b)) else none := rfl
@[scoped simp] theorem oSub_i (i j : Int) : oSub (.int i) (.int j) = some (.int (i - j)) := rfl
@[scoped simp] theorem oMul_i (i j : Int) : oMul (.int i) (.int j) = if mulOk i j then some (.int (i * j)) else none := rfl
@[scoped simp] theorem oDiv_i (i j : Int) : oDiv (.int i) (.int j) = if dvOk j then some (.int (i / j)) else none := rfl
@[scoped simp] theorem dvOk_t {j : Int} (h : 0 < j) (h2 : j ≤ 18446744073709551616) : dvOk j = True := eq_true (dvOk_s h h2)
@[scoped simp] theorem oMod_i (i j : Int) : oMod (.int i) (.int j) = if 0 < j then some (.int (i % j)) else none := rfl
@[scoped simp] theorem oPow_i (i j : Int) : oPow (.int i) (.int j) = if 0 ≤ j ∧ j ≤ 1000000 ∧ i.natAbs < 2 ^ 64 then some (.int (i ^ j.toNat)) else none := rfl
@[scoped simp] theorem sEq_i (i j : Int) : sEq (.int i) (.int j) = some (decide (i = j)) := rfl
@[scoped simp] theorem sEq_s (i j : Str) : sEq (.str i) (.str j) = some (decide (i = j)) := rfl
@[scoped simp] theorem sEq_b (i j : Bool) : sEq (.bl i) (.bl j) = some (decide (i = j)) := rfl
@[scoped simp] theorem sEq_nn : sEq .non .non = some true := rfl
@[scoped simp] theorem sEq_ni (i : Int) : sEq .non (.int i) = some false := rfl
@[scoped simp] theorem sEq_in (i : Int) : sEq (.int i) .non = some false := rfl
@[scoped simp] theorem sEq_nb (i : Bool) : sEq .non (.bl i) = some false := rfl
@[scoped simp] theorem sEq_bn (i : Bool) : sEq (.bl i) .non = some false := rfl
@[scoped simp] theorem sEq_ns (i : Str) : sEq .non (.str i) = some false := rfl
@[scoped simp] theorem sEq_sn (i : Str) : sEq (.str i) .non = some false := rfl
@[scoped simp] theorem sEq_is (i : Int) (j : Str) : sEq (.int i) (.str j) = some false := rfl
@[scoped simp] theorem sEq_si (i : Int) (j : Str) : sEq (.str j) (.int i) = some false := rfl
@[scoped simp] theorem sEq_bs (i : Bool) (j : Str) : sEq (.bl i) (.str j) = some false := rfl
@[scoped simp] theorem sEq_sb (i : Bool) (j : Str) : sEq (.str j) (.bl i) = some false := rfl
@[scoped simp] theorem sEq_l (a : List D) (y : D) : sEq (.lst a) y = none := by cases y <;> rfl
@[scoped simp] theorem sEq_t (a : List D) (y : D) : sEq (.tup a) y = none := by cases y <;> rfl
@[scoped simp] theorem oEq_app (x y : D) : oEq x y = match sEq x y with
  | some b => some (.bl b)
  | none => if x.shaped = true ∧ y.shaped = true then some (.bl (D.eqv x y)) else none := rfl
@[scoped simp] theorem oNe_app (x y : D) : oNe x y = match sEq x y with
  | some b => some (.bl (!b))
  | none => if x.shaped = true ∧ y.shaped = true then some (.bl (!D.eqv x y)) else none := rfl
@[scoped simp] theorem items_l (ds : List D) : items (.lst ds) = some ds := rfl
@[scoped simp] theorem items_t (ds : List D) : items (.tup ds) = some ds := rfl
@[scoped simp] theorem walkD_l (ds : List D) : walkD (.lst ds) = some ds := rfl
@[scoped simp] theorem walkD_t (ds : List D) : walkD (.tup ds) = some ds := rfl
@[scoped simp] theorem walkD_s (s : Str) : walkD (.str s) = some (signs s) := rfl
@[scoped simp] theorem flat_n : D.flat .non = true := rfl
@[scoped simp] theorem flat_b (b : Bool) : D.flat (.bl b) = true := rfl
@[scoped simp] theorem flat_i (i : Int) : D.flat (.int i) = true := rfl
@[scoped simp] theorem flat_s (s : Str) : D.flat (.str s) = true := rfl
@[scoped simp] theorem flat_l (s : List D) : D.flat (.lst s) = false := rfl
@[scoped simp] theorem flat_t (s : List D) : D.flat (.tup s) = false := rfl
@[scoped simp] theorem all_flat_i (ns : List Int) : (ns.map D.int).all D.flat = true := by rw [List.all_map]; exact List.all_eq_true.mpr fun _ _ => rfl
@[scoped simp] theorem all_flat_s (ns : List Str) : (ns.map D.str).all D.flat = true := by rw [List.all_map]; exact List.all_eq_true.mpr fun _ _ => rfl
@[scoped simp] theorem any_fEq_i (n : Int) (ns : List Int) : ((ns.map D.int).any fun z => fEq z (.int n)) = decide (n ∈ ns) := by
  rw [List.any_map]
  induction ns with
  | nil => rfl
  | cons m ms ih => rw [List.any_cons, ih, Bool.eq_iff_iff]; simp [fEq, eq_comm (a := m)]
@[scoped simp] theorem any_fEq_s (n : Str) (ns : List Str) : ((ns.map D.str).any fun z => fEq z (.str n)) = decide (n ∈ ns) := by
  rw [List.any_map]
  induction ns with
  | nil => rfl
  | cons m ms ih => rw [List.any_cons, ih, Bool.eq_iff_iff]; simp [fEq, eq_comm (a := m)]
@[scoped simp] theorem oIn_l (x : D) (ds : List D) : oIn x (.lst ds) = if x.flat = true ∧ ds.all D.flat = true then some (.bl (ds.any fun z => fEq z x)) else if x.shaped = true ∧ (D.lst ds).shaped = true then some (.bl (ds.any fun z => D.eqv z x)) else none := rfl
@[scoped simp] theorem oIn_t (x : D) (ds : List D) : oIn x (.tup ds) = if x.flat = true ∧ ds.all D.flat = true then some (.bl (ds.any fun z => fEq z x)) else if x.shaped = true ∧ (D.tup ds).shaped = true then some (.bl (ds.any fun z => D.eqv z x)) else none := rfl
@[scoped simp] theorem oNotIn_l (x : D) (ds : List D) : oNotIn x (.lst ds) = if x.flat = true ∧ ds.all D.flat = true then some (.bl (!ds.any fun z => fEq z x)) else if x.shaped = true ∧ (D.lst ds).shaped = true then some (.bl (!ds.any fun z => D.eqv z x)) else none := rfl
@[scoped simp] theorem oNotIn_t (x : D) (ds : List D) : oNotIn x (.tup ds) = if x.flat = true ∧ ds.all D.flat = true then some (.bl (!ds.any fun z => fEq z x)) else if x.shaped = true ∧ (D.tup ds).shaped = true then some (.bl (!ds.any fun z => D.eqv z x)) else none := rfl
@[scoped simp] theorem oLt_i (i j : Int) : oLt (.int i) (.int j) = some (.bl (decide (i < j))) := rfl
@[scoped simp] theorem oLt_s (i j : Str) : oLt (.str i) (.str j) = some (.bl (decide (i.cps.toList < j.cps.toList))) := rfl
@[scoped simp] theorem oLe_i (i j : Int) : oLe (.int i) (.int j) = some (.bl (decide (i ≤ j))) := rfl
@[scoped simp] theorem oLe_s (i j : Str) : oLe (.str i) (.str j) = some (.bl (!decide (j.cps.toList < i.cps.toList))) := rfl
@[scoped simp] theorem oGt_i (i j : Int) : oGt (.int i) (.int j) = some (.bl (decide (j < i))) := rfl
@[scoped simp] theorem oGe_i (i j : Int) : oGe (.int i) (.int j) = some (.bl (decide (j ≤ i))) := rfl
@[scoped simp] theorem oIsN_i (i : Int) : oIsN (.int i) .non = some (.bl false) := rfl
@[scoped simp] theorem oIsN_s (i : Str) : oIsN (.str i) .non = some (.bl false) := rfl
@[scoped simp] theorem oIsN_b (i : Bool) : oIsN (.bl i) .non = some (.bl false) := rfl
@[scoped simp] theorem oIsN_n : oIsN .non .non = some (.bl true) := rfl
@[scoped simp] theorem oIsN_l (l : List D) : oIsN (.lst l) .non = some (.bl false) := rfl
@[scoped simp] theorem oIsN_t (l : List D) : oIsN (.tup l) .non = some (.bl false) := rfl
@[scoped simp] theorem oIsN_o (C : Addr) (ns : List Str) (l : List D) : oIsN (.ins C ns l) .non = some (.bl false) := rfl
@[scoped simp] theorem oNotN_i (i : Int) : oNotN (.int i) .non = some (.bl true) := rfl
@[scoped simp] theorem oNotN_s (i : Str) : oNotN (.str i) .non = some (.bl true) := rfl
@[scoped simp] theorem oNotN_b (i : Bool) : oNotN (.bl i) .non = some (.bl true) := rfl
@[scoped simp] theorem oNotN_n : oNotN .non .non = some (.bl false) := rfl
@[scoped simp] theorem oNotN_l (l : List D) : oNotN (.lst l) .non = some (.bl true) := rfl
@[scoped simp] theorem oNotN_t (l : List D) : oNotN (.tup l) .non = some (.bl true) := rfl
@[scoped simp] theorem oNotN_o (C : Addr) (ns : List Str) (l : List D) : oNotN (.ins C ns l) .non = some (.bl true) := rfl
@[scoped simp] theorem oNotB_b (a b : Bool) : oNotB (.bl a) (.bl b) = some (.bl (!decide (a = b))) := rfl
@[scoped simp] theorem oIx_l (ds : List D) (k : Int) : oIx (.lst ds) (.int k) = atI ds k := rfl
@[scoped simp] theorem oIx_t (ds : List D) (k : Int) : oIx (.tup ds) (.int k) = atI ds k := rfl
@[scoped simp] theorem oIx_s (w : Str) (k : Int) : oIx (.str w) (.int k) = if w.length ≤ sizeLine then (atI w.cps.toList k).map fun c => .str ⟨#[c]⟩ else none := rfl
@[scoped simp] theorem oNeg_i (i : Int) : oNeg (.int i) = some (.int (-i)) := rfl
@[scoped simp] theorem oLen_l (ds : List D) : oLen (.lst ds) = some (.int (ds.length : Nat)) := rfl
@[scoped simp] theorem oLen_t (ds : List D) : oLen (.tup ds) = some (.int (ds.length : Nat)) := rfl
@[scoped simp] theorem oLen_s (w : Str) : oLen (.str w) = if w.length ≤ sizeLine then some (.int (w.length : Nat)) else none := rfl
@[scoped simp] theorem oInt_i (i : Int) : oInt (.int i) = some (.int i) := rfl
@[scoped simp] theorem oInt_b (k : Bool) : oInt (.bl k) = some (.int (if k then 1 else 0)) := rfl
@[scoped simp] theorem oAbs_i (i : Int) : oAbs (.int i) = some (.int (if i < 0 then -i else i)) := rfl
@[scoped simp] theorem oStr_i (i : Int) : oStr (.int i) = if i.natAbs.log2 < 1920 then some (.str (toString i)) else none := rfl
@[scoped simp] theorem oMax2_i (i j : Int) : oMax2 (.int i) (.int j) = some (.int (if j > i then j else i)) := rfl
@[scoped simp] theorem oMin2_i (i j : Int) : oMin2 (.int i) (.int j) = some (.int (if j < i then j else i)) := rfl
@[scoped simp] theorem oList_l (ds : List D) : oList (.lst ds) = some (.lst ds) := rfl
@[scoped simp] theorem oList_t (ds : List D) : oList (.tup ds) = some (.lst ds) := rfl
@[scoped simp] theorem oTuple_l (ds : List D) : oTuple (.lst ds) = some (.tup ds) := rfl
@[scoped simp] theorem oTuple_t (ds : List D) : oTuple (.tup ds) = some (.tup ds) := rfl
@[scoped simp] theorem allB_map (bs : List Bool) : allB (bs.map .bl) = some bs := by induction bs with
  | nil => rfl
  | cons b bs ih => simp [allB, ih]
@[scoped simp] theorem allI_map (bs : List Int) : allI (bs.map .int) = some bs := by induction bs with
  | nil => rfl
  | cons b bs ih => simp [allI, ih]
@[scoped simp] theorem allS_map (bs : List Str) : allS (bs.map .str) = some bs := by induction bs with
  | nil => rfl
  | cons b bs ih => simp [allS, ih]
@[scoped simp] theorem oAny_l (bs : List Bool) : oAny (.lst (bs.map .bl)) = some (.bl (bs.any id)) := by simp [oAny]
@[scoped simp] theorem oAll_l (bs : List Bool) : oAll (.lst (bs.map .bl)) = some (.bl (bs.all id)) := by simp [oAll]
@[scoped simp] theorem oSl_l (ds : List D) (lo hi : Option Int) : oSl (.lst ds) lo hi = some (.lst (cutD ds lo hi)) := rfl
@[scoped simp] theorem oSl_t (ds : List D) (lo hi : Option Int) : oSl (.tup ds) lo hi = some (.tup (cutD ds lo hi)) := rfl
@[scoped simp] theorem oRev_l (ds : List D) : oRev (.lst ds) = some (.lst ds.reverse) := rfl
@[scoped simp] theorem atI_00 {α : Type} (x : α) (xs : List α) : atI (x :: xs) 0 = some x := atI_nat (j := 0) (xs := x :: xs) rfl
@[scoped simp] theorem atI_11 {α : Type} (x y : α) (xs : List α) : atI (x :: y :: xs) 1 = some y := atI_nat (j := 1) (xs := x :: y :: xs) rfl
@[scoped simp] theorem atI_22 {α : Type} (x y z : α) (xs : List α) : atI (x :: y :: z :: xs) 2 = some z := atI_nat (j := 2) (xs := x :: y :: z :: xs) rfl
theorem lcP_map {α : Type} {enc : α → D} {g : D → List T → Option (List T)} {c : List T → Option Bool} {f : List T → Option D} {γ : List T} (p : α → Bool) (w : α → D) : ∀ (xs : List α), (∀ x ∈ xs, ∃ γ1, g (enc x) γ = some γ1 ∧ c γ1 = some (p x) ∧ (p x = true → f γ1 = some (w x))) → lcP g c f γ (xs.map enc) = some ((xs.filter p).map w)
  | [], _ => rfl
  | x :: xs, h => by
    obtain ⟨γ1, e1, e2, e3⟩ := h x (by simp)
    rw [List.map_cons]
    unfold lcP
    rw [e1, Option.bind_some, e2, Option.bind_some, lcP_map p w xs fun y m => h y (by simp [m])]
    cases hp : p x with
    | true => simp [e3 hp, hp]
    | false => simp [hp]
theorem lcP_mapT {α : Type} {enc : α → D} {g : D → List T → Option (List T)} {f : List T → Option D} {γ : List T} (w : α → D) (xs : List α) (h : ∀ x ∈ xs, ∃ γ1, g (enc x) γ = some γ1 ∧ f γ1 = some (w x)) : lcP g bYes f γ (xs.map enc) = some (xs.map w) := by
  have := lcP_map (c := bYes) (fun _ => true) w xs fun x m => let ⟨γ1, e1, e2⟩ := h x m; ⟨γ1, e1, rfl, fun _ => e2⟩
  rwa [filter_true] at this
end FD.FDW
namespace FD
open PySem PySem.Spec PyProof.Rows L2
@[simp ↓] theorem ok_pCon (C : Addr) (ns : List Str) (x : D) (f : List T → Option D) (γ : List T) (Q__ : D → Prop) : Ok (pCon C ns x f γ) Q__ ↔ Ok ((f γ).bind fun y => match y with
  | .ins C' ns' _ => if C' = C ∧ ns' = ns then some x else none
  | _ => none) Q__ := Iff.rfl
@[simp ↓] theorem ok_pFldD (l : FTab) (f : List T → Option D) (γ : List T) (Q__ : D → Prop) : Ok (pFldD l f γ) Q__ ↔ Ok ((f γ).bind fun x => match x with
  | .ins C' ns' ds => (fLook l C' ns').bind fun i => ds[i]?
  | _ => none) Q__ := Iff.rfl
@[simp ↓] theorem ok_pConD (l : CTab) (f : List T → Option D) (γ : List T) (Q__ : D → Prop) : Ok (pConD l f γ) Q__ ↔ Ok ((f γ).bind fun x => match x with
  | .ins C' ns' ds => cLook l C' ns'
  | _ => none) Q__ := Iff.rfl
@[simp ↓] theorem ok_eMakeV (C : Addr) (g : FN) (a : List T → Option (List D)) (γ : List T) (Q__ : T × List T → Prop) : Ok (eMakeV C g a γ) Q__ ↔ Ok ((a γ).bind fun xs => if xs.length ≤ sizeLine then makeF C g [none] [.d (.tup xs)] γ else none) Q__ := Iff.rfl
@[simp ↓] theorem ok_xMakeV (C : Addr) (g : FN) (a : List T → Option (List D)) (γ : List T) (Q__ : EO → Prop) : Ok (xMakeV C g a γ) Q__ ↔ Ok ((a γ).bind fun xs => if xs.length ≤ sizeLine then makeX C g [none] [.d (.tup xs)] γ else none) Q__ := Iff.rfl
@[simp ↓] theorem ok_eMakeW (C : Addr) (g : FN) (f : List T → Option D) (γ : List T) (Q__ : T × List T → Prop) : Ok (eMakeW C g f γ) Q__ ↔ Ok ((f γ).bind fun x => (items x).bind fun xs => if xs.length ≤ sizeLine then makeF C g [none] [.d (.tup xs)] γ else none) Q__ := Iff.rfl
@[simp ↓] theorem ok_xMakeW (C : Addr) (g : FN) (f : List T → Option D) (γ : List T) (Q__ : EO → Prop) : Ok (xMakeW C g f γ) Q__ ↔ Ok ((f γ).bind fun x => (items x).bind fun xs => if xs.length ≤ sizeLine then makeX C g [none] [.d (.tup xs)] γ else none) Q__ := Iff.rfl
@[simp] theorem mLook_cons (C : Addr) (ns : List Str) (g : FN) (l : MTab) (C' : Addr) (ns' : List Str) : mLook ((C, ns, g) :: l) C' ns' = if C' = C then (if ns' = ns then some g else none) else mLook l C' ns' := rfl
@[simp] theorem fLook_cons (C : Addr) (ns : List Str) (i : Nat) (l : FTab) (C' : Addr) (ns' : List Str) : fLook ((C, ns, i) :: l) C' ns' = if C' = C then (if ns' = ns then some i else none) else fLook l C' ns' := rfl
@[simp] theorem cLook_cons (C : Addr) (ns : List Str) (x : D) (l : CTab) (C' : Addr) (ns' : List Str) : cLook ((C, ns, x) :: l) C' ns' = if C' = C then (if ns' = ns then some x else none) else cLook l C' ns' := rfl
@[simp ↓] theorem ok_pMethD (l : MTab) (f : List T → Option D) (a : List T → Option (List D)) (γ : List T) (Q : D → Prop) : Ok (pMethD l f a γ) Q ↔ Ok (f γ) fun x => Ok (match x with
    | .ins C ns ds => (mLook l C ns).map fun g => (g, D.ins C ns ds)
    | _ => none) fun p => Ok (a γ) fun xs => Ok (p.1 (.d p.2 :: xs.map .d)) fun o => RetK o fun r _ => Ok r.toD Q := by
  unfold pMethD
  rw [ok_bind]
  refine iff_of_eq (congrArg (fun R => OkP (f γ) R .mk) (funext fun x => propext ?_))
  cases x with
  | ins C ns ds =>
    simp only
    rw [ok_bind, ok_map]
    refine iff_of_eq (congrArg (fun R => OkP (mLook l C ns) R .mk) (funext fun g => propext ?_))
    rw [ok_bind]
    refine iff_of_eq (congrArg (fun R => OkP (a γ) R .mk) (funext fun xs => propext ?_))
    dsimp only
    cases g (.d (.ins C ns ds) :: xs.map .d) with
    | none => simp
    | some o => cases o <;> simp
  | _ => simp
@[simp ↓] theorem ok_eqOne (C : Addr) (cs : List Addr) (g : FN) (x y : D) (Q : D → Prop) : Ok (eqOne C cs g x y) Q ↔ besideC C cs y = true ∧ Ok (g [.d x, .d y]) fun o => RetK o fun r _ => Ok (match r with
    | .d (.bl b) => some (.bl b)
    | _ => none) Q := by
  unfold eqOne
  rw [ok_iteN]
  refine and_congr_right fun _ => ?_
  cases g [.d x, .d y] with
  | none => simp
  | some o => cases o with
    | exc => simp
    | ret r p => cases r with
      | d z => cases z <;> simp
      | _ => simp
@[simp] theorem oEqD_ins (C : Addr) (cs : List Addr) (g : FN) (l : EqTab) (C' : Addr) (ns : List Str) (ds : List D) (y : D) : oEqD ((C, cs, g) :: l) (.ins C' ns ds) y = if C' = C then eqOne C cs g (.ins C' ns ds) y else oEqD l (.ins C' ns ds) y := rfl
@[simp ↓] theorem ok_oNeD (l : EqTab) (x y : D) (Q : D → Prop) : Ok (oNeD l x y) Q ↔ Ok (oEqD l x y) fun z => Ok (match z with
  | .bl b => some (.bl (!b))
  | _ => none) Q := by
  unfold oNeD
  rw [ok_bind]
  try exact Iff.rfl
@[simp] theorem besideC_i (C : Addr) (cs : List Addr) (i : Int) : besideC C cs (.int i) = true := rfl
@[simp] theorem besideC_s (C : Addr) (cs : List Addr) (i : Str) : besideC C cs (.str i) = true := rfl
@[simp] theorem besideC_o (C : Addr) (cs : List Addr) (C' : Addr) (ns : List Str) (ds : List D) : besideC C cs (.ins C' ns ds) = (decide (C' = C) || cs.contains C') := rfl
@[simp] theorem oIsiD_o (l : List (Addr × Bool)) (C C' : Addr) (ns : List Str) (ds : List D) : oIsiD l C (.ins C' ns ds) (.raw (.ref C)) = (l.lookup C').map .bl := by simp [oIsiD]
@[simp] theorem oIsiD_i (l : List (Addr × Bool)) (C : Addr) (i : Int) : oIsiD l C (.int i) (.raw (.ref C)) = some (.bl false) := by simp [oIsiD]; rfl
@[simp ↓] theorem ok_pJs_cons (f : List T → Option D) (fs : List (List T → Option D)) (acc : Str) (γ : List T) (Q : D → Prop) : Ok (pJs (f :: fs) acc γ) Q ↔ Ok (f γ) fun x => Ok (match x with
  | .str y => if (acc ++ y).length ≤ sizeLine then some y else none
  | _ => none) fun y => Ok (pJs fs (acc ++ y) γ) Q := by
  show Ok ((f γ).bind fun x => _) Q ↔ _
  rw [ok_bind]
  refine iff_of_eq (congrArg (fun R => OkP (f γ) R .mk) (funext fun x => propext ?_))
  cases x <;> simp
@[simp ↓] theorem ok_pJs_nil (acc : Str) (γ : List T) (Q : D → Prop) : Ok (pJs [] acc γ) Q ↔ Q (.str acc) := ok_some _ _
/-- one statement, then the rest -/
theorem ok_seq {f g : List T → Option O} {γ γ' : List T} {Q : O → Prop} (e : f γ = some (.nx γ')) (h : Ok (g γ') Q) : Ok (sSeq f g γ) Q := by
  rw [ok_sSeq, ok_bind, e, ok_some]
  exact h
theorem ok_seqP {f g : List T → Option O} {γ : List T} {P Q : O → Prop} (h : Ok (f γ) P) (k : ∀ o, P o → ∃ γ', o = .nx γ' ∧ Ok (g γ') Q) : Ok (sSeq f g γ) Q := by
  rw [ok_sSeq, ok_bind]
  refine h.mono fun o p => ?_
  obtain ⟨γ', rfl, q⟩ := k o p
  exact q
end FD
namespace FD
open PySem PySem.Spec PyProof.Rows L2
@[simp ↓] theorem ok_pWith (i : Nat) (f : List T → Option D) (γ : List T) (Q__ : D → Prop) : Ok (pWith i f γ) Q__ ↔ Ok ((γ[i]?).bind fun t => t.toD.bind fun x => (f (γ.set i (.d x))).bind fun z => if z.tl = true then some z else none) Q__ := Iff.rfl
@[simp ↓] theorem ok_bWith (i : Nat) (f : List T → Option Bool) (γ : List T) (Q__ : Bool → Prop) : Ok (bWith i f γ) Q__ ↔ Ok ((γ[i]?).bind fun t => t.toD.bind fun x => f (γ.set i (.d x))) Q__ := Iff.rfl
@[simp ↓] theorem ok_lWith (i : Nat) (f : List T → Option (List D)) (γ : List T) (Q__ : List D → Prop) : Ok (lWith i f γ) Q__ ↔ Ok ((γ[i]?).bind fun t => t.toD.bind fun x => (f (γ.set i (.d x))).bind fun z => if D.tls z = true then some z else none) Q__ := Iff.rfl
@[simp ↓] theorem ok_eFu (f : List T → Option (List D)) (γ : List T) (Q__ : T × List T → Prop) : Ok (eFu f γ) Q__ ↔ Ok ((f γ).map fun ds => (.lst ds, γ)) Q__ := Iff.rfl
@[simp ↓] theorem ok_sAl (j : Nat) (l : List T → Option (Nat × Pth)) (b : Nat × Pth → List T → Option O) (γ : List T) (Q__ : O → Prop) : Ok (sAl j l b γ) Q__ ↔ Ok ((l γ).bind fun p => if isEm γ j = true ∧ j ≠ p.1 ∧ j < γ.length then b p γ else none) Q__ := Iff.rfl
@[simp ↓] theorem ok_sAsgA (k : Nat) (f : List T → Option D) (b : List T → Option O) (γ : List T) (Q__ : O → Prop) : Ok (sAsgA k f b γ) Q__ ↔ Ok ((f γ).bind fun x => b (γ.set k (.d x))) Q__ := Iff.rfl
@[simp ↓] theorem ok_sIfA (c : List T → Option Bool) (f g : List T → Option O) (γ : List T) (Q__ : O → Prop) : Ok (sIfA c f g γ) Q__ ↔ Ok ((c γ).bind fun b => if b = true then f γ else g γ) Q__ := Iff.rfl
@[simp ↓] theorem ok_pGet2A (p : Nat × Pth) (g h : List T → Option D) (γ : List T) (Q__ : D → Prop) : Ok (pGet2A p g h γ) Q__ ↔ Ok ((gAt γ p.1 p.2).bind fun t => t.top.bind fun x => (g γ).bind fun y => (h γ).bind fun z => match x with
  | .dic ks ds => (toK y).map fun k => (atK ks ds k).getD z
  | _ => none) Q__ := Iff.rfl
@[simp ↓] theorem ok_sDPutA (p : Nat × Pth) (f g : List T → Option D) (b : List T → Option O) (γ : List T) (Q__ : O → Prop) : Ok (sDPutA p f g b γ) Q__ ↔ Ok ((f γ).bind fun x => (gAt γ p.1 p.2).bind fun t => match t with
  | .dic ks ts => (g γ).bind fun y => (toK y).bind fun k => if ks.length < sizeLine then b (gPut γ p.1 p.2 (.dic (putKs ks k) (putTsK ks ts k (.d x)))) else none
  | _ => none) Q__ := Iff.rfl
@[simp ↓] theorem ok_lIfV (c : Nat) (l m : List T → Option (Nat × Pth)) (γ : List T) (Q__ : Nat × Pth → Prop) : Ok (lIfV c l m γ) Q__ ↔ Ok (match γ[c]? with
  | some (.d (.bl b)) => if b = true then l γ else m γ
  | _ => none) Q__ := Iff.rfl
@[simp ↓] theorem ok_eMethN (C : Addr) (ns : List Str) (g : FN) (i : Nat) (P : List (Option D)) (bs : List (Option Nat)) (a : List T → Option (List T × List T)) (γ : List T) (Q__ : T × List T → Prop) : Ok (eMethN C ns g i P bs a γ) Q__ ↔ Ok (match γ[i]? with
  | some (.obj C' ns' _) => if C' = C ∧ ns' = ns then (a γ).bind fun q => if bs.length = holes P ∧ q.1.length = holes P then callF g (some i :: weave (fun _ => none) P bs) (.em :: weave (fun x => .d x) P q.1) q.2 else none else none
  | _ => none) Q__ := Iff.rfl
@[simp ↓] theorem ok_lPu (f : List T → Option (List D)) (γ : List T) (Q__ : D → Prop) : Ok (lPu f γ) Q__ ↔ Ok ((f γ).map .lst) Q__ := Iff.rfl
@[simp ↓] theorem ok_lSortSet (f : List T → Option D) (γ : List T) (Q__ : List D → Prop) : Ok (lSortSet f γ) Q__ ↔ Ok ((f γ).bind oSortSet) Q__ := Iff.rfl
@[simp ↓] theorem ok_pRepl (f : List T → Option D) (y z : Str) (γ : List T) (Q__ : D → Prop) : Ok (pRepl f y z γ) Q__ ↔ Ok ((f γ).bind fun v => match v with
  | .str x => if x.length + (x.length + 1) * z.length ≤ 16777216 then some (.str (Txt.replace x y z)) else none
  | _ => none) Q__ := Iff.rfl
@[simp ↓] theorem ok_sRevV (i : Nat) (γ : List T) (Q__ : O → Prop) : Ok (sRevV i γ) Q__ ↔ Ok (match γ[i]? with
  | some (.lst ds) => some (.nx (γ.set i (.lst ds.reverse)))
  | _ => none) Q__ := Iff.rfl
@[simp ↓] theorem ok_sClrV (i : Nat) (γ : List T) (Q__ : O → Prop) : Ok (sClrV i γ) Q__ ↔ Ok (match γ[i]? with
  | some (.lst ds) => some (.nx (γ.set i (.lst [])))
  | _ => none) Q__ := Iff.rfl
@[simp ↓] theorem ok_sAsgB (p : Nat × Pth) (k : Nat) (f : List T → Option D) (b : List T → Option O) (γ : List T) (Q__ : O → Prop) : Ok (sAsgB p k f b γ) Q__ ↔ Ok (if k ≠ p.1 then sAsgA k f b γ else none) Q__ := Iff.rfl
@[simp ↓] theorem ok_bTi (f : List T → Option D) (γ : List T) (Q__ : Bool → Prop) : Ok (bTi f γ) Q__ ↔ Ok ((f γ).bind fun x => match x with
  | .bl b => some b
  | .int i => some (decide (i ≠ 0))
  | .str y => if y.length ≤ sizeLine then some (decide (y.length ≠ 0)) else none
  | .lst ds => some (!ds.isEmpty)
  | .tup ds => some (!ds.isEmpty)
  | .non => some false
  | _ => none) Q__ := Iff.rfl
@[simp] theorem tl_non : D.tl .non = true := rfl
@[simp] theorem tl_bl (b : Bool) : D.tl (.bl b) = true := rfl
@[simp] theorem tl_int (b : Int) : D.tl (.int b) = true := rfl
@[simp] theorem tl_str (b : Str) : D.tl (.str b) = true := rfl
@[simp] theorem tl_tup (b : List D) : D.tl (.tup b) = D.tls b := by rw [D.tl]
@[simp] theorem tls_nil : D.tls [] = true := rfl
@[simp] theorem tls_cons (d : D) (ds : List D) : D.tls (d :: ds) = (d.tl && D.tls ds) := by rw [D.tls]
@[simp ↓] theorem ok_oInOwn (C : Addr) (g : FN) (x : D) (ns : List Str) (ds : List D) (Q : D → Prop) : Ok (oInOwn C g x (.ins C ns ds)) Q ↔ Ok (g [.d (.ins C ns ds), .d x]) fun o => RetK o fun r _ => Ok (match r with
  | .d (.bl b) => some (.bl b)
  | _ => none) Q := by
  unfold oInOwn
  simp only [if_true]
  cases g [.d (.ins C ns ds), .d x] with
  | none => simp
  | some o => cases o with
    | exc => simp
    | ret r p => cases r with
      | d z => cases z <;> simp
      | _ => simp
@[simp ↓] theorem ok_oNotInOwn (C : Addr) (g : FN) (x : D) (ns : List Str) (ds : List D) (Q : D → Prop) : Ok (oNotInOwn C g x (.ins C ns ds)) Q ↔ Ok (g [.d (.ins C ns ds), .d x]) fun o => RetK o fun r _ => Ok (match r with
  | .d (.bl b) => some (.bl (!b))
  | _ => none) Q := by
  unfold oNotInOwn
  simp only [if_true]
  cases g [.d (.ins C ns ds), .d x] with
  | none => simp
  | some o => cases o with
    | exc => simp
    | ret r p => cases r with
      | d z => cases z <;> simp
      | _ => simp
@[simp ↓] theorem ok_oLenOwn (C : Addr) (g : FN) (ns : List Str) (ds : List D) (Q : D → Prop) : Ok (oLenOwn C g (.ins C ns ds)) Q ↔ Ok (g [.d (.ins C ns ds)]) fun o => RetK o fun r _ => Ok (match r with
  | .d (.int n) => if 0 ≤ n ∧ n < 2 ^ 63 then some (.int n) else none
  | _ => none) Q := by
  unfold oLenOwn
  simp only [if_true]
  cases g [.d (.ins C ns ds)] with
  | none => simp
  | some o => cases o with
    | exc => simp
    | ret r p => cases r with
      | d z => cases z <;> simp
      | _ => simp
@[simp ↓] theorem ok_lMeth (C : Addr) (ns : List Str) (g : FN) (f : List T → Option D) (a : List T → Option (List D)) (γ : List T) (Q : List D → Prop) : Ok (lMeth C ns g f a γ) Q ↔ Ok (f γ) fun x => Ok (match x with
    | .ins C' ns' ds => if C' = C ∧ ns' = ns then some (D.ins C' ns' ds) else none
    | _ => none) fun p => Ok (a γ) fun xs => Ok (g (.d p :: xs.map .d)) fun o => RetK o fun r _ => Ok (match r with
    | .lst zs => some zs
    | _ => none) Q := by
  unfold lMeth
  rw [ok_bind]
  refine iff_of_eq (congrArg (fun R => OkP (f γ) R .mk) (funext fun x => propext ?_))
  cases x with
  | ins C' ns' ds =>
    simp only
    by_cases h : C' = C ∧ ns' = ns
    · rw [if_pos h, if_pos h, ok_bind, ok_some]
      refine iff_of_eq (congrArg (fun R => OkP (a γ) R .mk) (funext fun xs => propext ?_))
      cases g (.d (.ins C' ns' ds) :: xs.map .d) with
      | none => simp
      | some o => cases o with
        | exc => simp
        | ret r p => cases r <;> simp
    · rw [if_neg h, if_neg h]
      simp
  | _ => simp
@[simp] theorem oSlH_i (x : D) (i : Int) : oSlH x (.int i) = oSl x none (some i) := rfl
end FD
namespace FD.FD9
open PySem PySem.Spec PyProof.Rows L2 FD
@[scoped simp] theorem pVar_app (i : Nat) (γ : List T) : pVar i γ = match γ[i]? with
  | some (.d x) => some x
  | _ => none := rfl
@[scoped simp] theorem cVar_app (i : Nat) (γ : List T) : cVar i γ = (γ[i]?).bind T.top := rfl
@[scoped simp] theorem pC_app (x : D) (γ : List T) : pC x γ = some x := rfl
@[scoped simp] theorem pOp_app (o : D → D → Option D) (f g : List T → Option D) (γ : List T) : pOp o f g γ = (f γ).bind fun x => (g γ).bind fun y => o x y := rfl
@[scoped simp] theorem pUn_app (o : D → Option D) (f : List T → Option D) (γ : List T) : pUn o f γ = (f γ).bind o := rfl
@[scoped simp] theorem pNil_app  (γ : List T) : pNil  γ = some [] := rfl
@[scoped simp] theorem pCons_app (f : List T → Option D) (g : List T → Option (List D)) (γ : List T) : pCons f g γ = (f γ).bind fun x => (g γ).map fun xs => x :: xs := rfl
@[scoped simp] theorem pCB_app (o : List D → Option D) (g : List T → Option (List D)) (γ : List T) : pCB o g γ = (g γ).bind o := rfl
@[scoped simp] theorem pTup_app (g : List T → Option (List D)) (γ : List T) : pTup g γ = (g γ).bind fun xs => if xs.length ≤ sizeLine then some (.tup xs) else none := rfl
@[scoped simp] theorem pLst_app (g : List T → Option (List D)) (γ : List T) : pLst g γ = (g γ).bind fun xs => if xs.length ≤ sizeLine then some (.lst xs) else none := rfl
@[scoped simp] theorem pTest_app (f : List T → Option D) (γ : List T) : pTest f γ = (f γ).bind fun x => match x with
  | .bl b => some b
  | _ => none := rfl
@[scoped simp] theorem bNot_app (p : List T → Option Bool) (γ : List T) : bNot p γ = (p γ).map (!·) := rfl
@[scoped simp] theorem bAnd_app (p q : List T → Option Bool) (γ : List T) : bAnd p q γ = (p γ).bind fun a => if a = true then q γ else some false := rfl
@[scoped simp] theorem bOr_app (p q : List T → Option Bool) (γ : List T) : bOr p q γ = (p γ).bind fun a => if a = true then some true else q γ := rfl
@[scoped simp] theorem bYes_app  (γ : List T) : bYes  γ = some true := rfl
@[scoped simp] theorem bTru_app (f : List T → Option D) (γ : List T) : bTru f γ = (f γ).bind fun x => match x with
  | .bl b => some b
  | .int i => some (decide (i ≠ 0))
  | .str s => some (decide (s.length ≠ 0))
  | .lst ds => some (decide (ds.length ≠ 0))
  | .tup ds => some (decide (ds.length ≠ 0))
  | .non => some false
  | _ => none := rfl
@[scoped simp] theorem pAnd_app (f g : List T → Option D) (γ : List T) : pAnd f g γ = (f γ).bind fun x => match x with
  | .bl true => (g γ).bind fun y => match y with
    | .bl b => some (.bl b)
    | _ => none
  | .bl false => some (.bl false)
  | _ => none := rfl
@[scoped simp] theorem pOr_app (f g : List T → Option D) (γ : List T) : pOr f g γ = (f γ).bind fun x => match x with
  | .bl false => (g γ).bind fun y => match y with
    | .bl b => some (.bl b)
    | _ => none
  | .bl true => some (.bl true)
  | _ => none := rfl
@[scoped simp] theorem pNot_app (f : List T → Option D) (γ : List T) : pNot f γ = (f γ).bind fun x => match x with
  | .bl b => some (.bl (!b))
  | _ => none := rfl
@[scoped simp] theorem pIf_app (p : List T → Option Bool) (f g : List T → Option D) (γ : List T) : pIf p f g γ = (p γ).bind fun a => if a = true then f γ else g γ := rfl
@[scoped simp] theorem pChain_app (o o' : D → D → Option D) (f g h : List T → Option D) (γ : List T) : pChain o o' f g h γ = (f γ).bind fun x => (g γ).bind fun y => (o x y).bind fun z => match z with
  | .bl true => (h γ).bind fun w => (o' y w).bind fun r => match r with
    | .bl b => some (.bl b)
    | _ => none
  | .bl false => some (.bl false)
  | _ => none := rfl
@[scoped simp] theorem oNone_app  (γ : List T) : oNone  γ = some none := rfl
@[scoped simp] theorem oSome_app (f : List T → Option D) (γ : List T) : oSome f γ = (f γ).bind fun x => match x with
  | .int i => some (some i)
  | _ => none := rfl
@[scoped simp] theorem pSl_app (o : D → Option Int → Option Int → Option D) (f : List T → Option D) (a b : List T → Option (Option Int)) (γ : List T) : pSl o f a b γ = (f γ).bind fun x => (a γ).bind fun l => (b γ).bind fun h => o x l h := rfl
@[scoped simp] theorem eP_app (f : List T → Option D) (γ : List T) : eP f γ = (f γ).map fun x => (.d x, γ) := rfl
@[scoped simp] theorem eT_app (f : List T → Option Bool) (γ : List T) : eT f γ = (f γ).map fun b => (b, γ) := rfl
@[scoped simp] theorem aNil_app  (γ : List T) : aNil  γ = some ([], γ) := rfl
@[scoped simp] theorem aCons_app (f : List T → Option (T × List T)) (g : List T → Option (List T × List T)) (γ : List T) : aCons f g γ = (f γ).bind fun p => (g p.2).map fun q => (p.1 :: q.1, q.2) := rfl
@[scoped simp] theorem aBor_app (i : Nat) (g : List T → Option (List T × List T)) (γ : List T) : aBor i g γ = match γ[i]? with
  | some .em => none
  | some _ => (g γ).map fun q => (.em :: q.1, q.2)
  | none => none := rfl
@[scoped simp] theorem eOp_app (bs : List (Option Nat)) (o : D → D → Option D) (g : List T → Option (List T × List T)) (γ : List T) : eOp bs o g γ = (g γ).bind fun q => (resA q.2 bs q.1).bind fun xs => match xs with
  | [x, y] => (o x y).map fun z => (.d z, q.2)
  | _ => none := rfl
@[scoped simp] theorem eUn_app (bs : List (Option Nat)) (o : D → Option D) (g : List T → Option (List T × List T)) (γ : List T) : eUn bs o g γ = (g γ).bind fun q => (resA q.2 bs q.1).bind fun xs => match xs with
  | [x] => (o x).map fun z => (.d z, q.2)
  | _ => none := rfl
@[scoped simp] theorem eCB_app (bs : List (Option Nat)) (o : List D → Option D) (g : List T → Option (List T × List T)) (γ : List T) : eCB bs o g γ = (g γ).bind fun q => (resA q.2 bs q.1).bind fun xs => (o xs).map fun z => (.d z, q.2) := rfl
@[scoped simp] theorem eTup_app (bs : List (Option Nat)) (g : List T → Option (List T × List T)) (γ : List T) : eTup bs g γ = (g γ).bind fun q => (resI bs q.1).bind fun xs => if xs.length ≤ sizeLine then some (.d (.tup xs), q.2) else none := rfl
@[scoped simp] theorem eLst_app (bs : List (Option Nat)) (g : List T → Option (List T × List T)) (γ : List T) : eLst bs g γ = (g γ).bind fun q => (resI bs q.1).bind fun xs => if xs.length ≤ sizeLine then some (.lst xs, q.2) else none := rfl
@[scoped simp] theorem eList_app (f : List T → Option D) (γ : List T) : eList f γ = (f γ).bind fun x => (items x).map fun xs => (.lst xs, γ) := rfl
@[scoped simp] theorem eDic_app  (γ : List T) : eDic  γ = some (.dic [] [], γ) := rfl
@[scoped simp] theorem eFrz_app (i : Nat) (γ : List T) : eFrz i γ = (γ[i]?).bind fun t => t.toD.map fun x => (.d x, γ.set i (.d x)) := rfl
@[scoped simp] theorem eTest_app (f : List T → Option (T × List T)) (γ : List T) : eTest f γ = (f γ).bind fun q => match q.1 with
  | .d (.bl b) => some (b, q.2)
  | _ => none := rfl
@[scoped simp] theorem eNot_app (p : List T → Option (Bool × List T)) (γ : List T) : eNot p γ = (p γ).map fun q => (!q.1, q.2) := rfl
@[scoped simp] theorem eAnd_app (p q : List T → Option (Bool × List T)) (γ : List T) : eAnd p q γ = (p γ).bind fun a => if a.1 = true then q a.2 else some (false, a.2) := rfl
@[scoped simp] theorem eOr_app (p q : List T → Option (Bool × List T)) (γ : List T) : eOr p q γ = (p γ).bind fun a => if a.1 = true then some (true, a.2) else q a.2 := rfl
@[scoped simp] theorem eAndV_app (f g : List T → Option (T × List T)) (γ : List T) : eAndV f g γ = (f γ).bind fun q => match q.1 with
  | .d (.bl true) => (g q.2).bind fun r => match r.1 with
    | .d (.bl b) => some (.d (.bl b), r.2)
    | _ => none
  | .d (.bl false) => some (.d (.bl false), q.2)
  | _ => none := rfl
@[scoped simp] theorem eOrV_app (f g : List T → Option (T × List T)) (γ : List T) : eOrV f g γ = (f γ).bind fun q => match q.1 with
  | .d (.bl false) => (g q.2).bind fun r => match r.1 with
    | .d (.bl b) => some (.d (.bl b), r.2)
    | _ => none
  | .d (.bl true) => some (.d (.bl true), q.2)
  | _ => none := rfl
@[scoped simp] theorem eNotV_app (f : List T → Option (T × List T)) (γ : List T) : eNotV f γ = (f γ).bind fun q => match q.1 with
  | .d (.bl b) => some (.d (.bl (!b)), q.2)
  | _ => none := rfl
@[scoped simp] theorem eIf_app (p : List T → Option (Bool × List T)) (f g : List T → Option (T × List T)) (γ : List T) : eIf p f g γ = (p γ).bind fun a => if a.1 = true then f a.2 else g a.2 := rfl
@[scoped simp] theorem eCall_app (g : FN) (bs : List (Option Nat)) (a : List T → Option (List T × List T)) (γ : List T) : eCall g bs a γ = (a γ).bind fun q => callF g bs q.1 q.2 := rfl
@[scoped simp] theorem pCall_app (g : FN) (a : List T → Option (List D)) (γ : List T) : pCall g a γ = (a γ).bind fun xs => match g (xs.map .d) with
  | some (.ret r _) => r.toD
  | _ => none := rfl
@[scoped simp] theorem gN_app (i : Nat) (x : D) (γ : List T) : gN i x γ = some (γ.set i (.d x)) := rfl
@[scoped simp] theorem gNl_app  (xs : List D) (γ : List T) : gNl  xs γ = match xs with
  | [] => some γ
  | _ => none := rfl
@[scoped simp] theorem gCn_app (f : D → List T → Option (List T)) (g : List D → List T → Option (List T)) (xs : List D) (γ : List T) : gCn f g xs γ = match xs with
  | x :: xs => (f x γ).bind fun γ1 => g xs γ1
  | [] => none := rfl
@[scoped simp] theorem gTp_app (n : Nat) (g : List D → List T → Option (List T)) (x : D) (γ : List T) : gTp n g x γ = match x with
  | .tup ds => if ds.length = n then g ds γ else none
  | _ => none := rfl
@[scoped simp] theorem iAnyF_app (f : List T → Option D) (γ : List T) : iAnyF f γ = (f γ).bind walkD := rfl
@[scoped simp] theorem iR1_app (f : List T → Option D) (γ : List T) : iR1 f γ = (f γ).bind fun x => match x with
  | .int n => if -(2 ^ 62) ≤ n ∧ n < 2 ^ 62 then some (intsD 0 n.toNat) else none
  | _ => none := rfl
@[scoped simp] theorem iR2_app (f g : List T → Option D) (γ : List T) : iR2 f g γ = (f γ).bind fun x => (g γ).bind fun y => match x, y with
  | .int lo, .int n => if -(2 ^ 62) ≤ lo ∧ lo < 2 ^ 62 ∧ -(2 ^ 62) ≤ n ∧ n < 2 ^ 62 then some (intsD lo (n - lo).toNat) else none
  | _, _ => none := rfl
@[scoped simp] theorem iEn_app (f : List T → Option D) (γ : List T) : iEn f γ = (f γ).bind fun x => match x with
  | .lst ds => some (enumD ds)
  | _ => none := rfl
@[scoped simp] theorem iZp_app (f g : List T → Option D) (γ : List T) : iZp f g γ = (f γ).bind fun x => (g γ).bind fun y => match x, y with
  | .lst xs, .lst ys => some (zipD xs ys)
  | _, _ => none := rfl
@[scoped simp] theorem pLc_app (vs : List Nat) (it : List T → Option (List D)) (g : D → List T → Option (List T)) (c : List T → Option Bool) (f : List T → Option D) (γ : List T) : pLc vs it g c f γ =
  if vs.all (isEm γ) = true then (it γ).bind fun ds => if ds.length < sizeLine then (lcP g c f γ ds).map .lst else none else none := rfl
@[scoped simp] theorem sNext_app  (γ : List T) : sNext  γ = some (.nx γ) := rfl
@[scoped simp] theorem sSeq_app (f g : List T → Option O) (γ : List T) : sSeq f g γ = (f γ).bind fun o => match o with
  | .nx γ1 => g γ1
  | o => some o := rfl
@[scoped simp] theorem sAsg_app (i : Nat) (f : List T → Option (T × List T)) (γ : List T) : sAsg i f γ = (f γ).map fun q => .nx (q.2.set i q.1) := rfl
@[scoped simp] theorem eD_app (f : List T → Option (T × List T)) (γ : List T) : eD f γ = (f γ).bind fun q => q.1.toD.map fun x => (.d x, q.2) := rfl
@[scoped simp] theorem sAsgD_app (i : Nat) (f : List T → Option (T × List T)) (γ : List T) : sAsgD i f γ = (f γ).bind fun q => q.1.toD.map fun x => .nx (q.2.set i (.d x)) := rfl
@[scoped simp] theorem sAsgG_app (g : D → List T → Option (List T)) (f : List T → Option (T × List T)) (γ : List T) : sAsgG g f γ = (f γ).bind fun q => q.1.toD.bind fun x => (g x q.2).map .nx := rfl
@[scoped simp] theorem sPar_app (js : List Nat) (g : List T → Option (List T × List T)) (γ : List T) : sPar js g γ = (g γ).bind fun q => if q.1.length = js.length then some (.nx ((js.zip q.1).foldl (fun γ p => γ.set p.1 p.2) q.2)) else none := rfl
@[scoped simp] theorem sRet_app (f : List T → Option (T × List T)) (γ : List T) : sRet f γ = (f γ).map fun q => .rt q.1 q.2 := rfl
@[scoped simp] theorem sRetN_app  (γ : List T) : sRetN  γ = some (.rt (.d .non) γ) := rfl
@[scoped simp] theorem eMov_app (i : Nat) (γ : List T) : eMov i γ = match γ[i]? with
  | some (.d x) => some (.d x, γ)
  | some .em => none
  | some t => some (t, γ.set i .em)
  | none => none := rfl
@[scoped simp] theorem sExpr_app (f : List T → Option (T × List T)) (γ : List T) : sExpr f γ = (f γ).map fun q => .nx q.2 := rfl
@[scoped simp] theorem sBrk_app  (γ : List T) : sBrk  γ = some (.bk γ) := rfl
@[scoped simp] theorem sCont_app  (γ : List T) : sCont  γ = some (.ct γ) := rfl
@[scoped simp] theorem sIf_app (p : List T → Option (Bool × List T)) (f g : List T → Option O) (γ : List T) : sIf p f g γ = (p γ).bind fun q => if q.1 = true then f q.2 else g q.2 := rfl
@[scoped simp] theorem sNo_app  (γ : List T) : sNo  γ = none := rfl
@[scoped simp] theorem eNo_app  (γ : List T) : eNo  γ = none := rfl
@[scoped simp] theorem iP_app (f : List T → Option (List D)) (γ : List T) : iP f γ = (f γ).map fun ds => (ds, γ) := rfl
@[scoped simp] theorem iR1E_app (f : List T → Option (T × List T)) (γ : List T) : iR1E f γ = (f γ).bind fun q => match q.1 with
  | .d (.int n) => if -(2 ^ 62) ≤ n ∧ n < 2 ^ 62 then some (intsD 0 n.toNat, q.2) else none
  | _ => none := rfl
@[scoped simp] theorem iAnyE_app (f : List T → Option (T × List T)) (γ : List T) : iAnyE f γ = (f γ).bind fun q => q.1.toD.bind fun y => (walkD y).map fun ds => (ds, q.2) := rfl
@[scoped simp] theorem sFor_app (it : List T → Option (List D × List T)) (g : D → List T → Option (List T)) (b : List T → Option O) (γ : List T) : sFor it g b γ = (it γ).bind fun q => forS g b q.1 q.2 := rfl
@[scoped simp] theorem fnF_app (np n : Nat) (wr : List Nat) (b : List T → Option O) (pre : List T) : fnF np n wr b pre = if pre.length = np ∧ okW wr pre = true then (b (pre ++ List.replicate (n - pre.length) .em)).bind fun o => match o with
  | .rt r γ => some (.ret r (postP pre γ))
  | .nx γ => some (.ret (.d .non) (postP pre γ))
  | .xc C fs γ => some (.exc C fs (postP pre γ))
  | _ => none else none := rfl
@[scoped simp] theorem eLcO_app (vs : List Nat) (it : List T → Option (List D)) (g : D → List T → Option (List T)) (c : List T → Option Bool) (f : List T → Option D) (γ : List T) : eLcO vs it g c f γ =
  if vs.all (isEm γ) = true then (it γ).bind fun ds => if ds.length < sizeLine then (lcP g c f γ ds).map fun zs => (.lst zs, γ) else none else none := rfl
@[scoped simp] theorem eLc_app (vs : List Nat) (it : List T → Option (List D × List T)) (g : D → List T → Option (List T)) (c : List T → Option (Bool × List T)) (f : List T → Option (T × List T)) (γ : List T) : eLc vs it g c f γ =
  if vs.all (isEm γ) = true then (it γ).bind fun p => if vs.all (isEm p.2) = true ∧ p.1.length < sizeLine then (lcE vs g c f p.1 p.2).bind fun r => if vs.all (isEm r.2) = true then some (.lst r.1, r.2) else none else none else none := rfl
@[scoped simp] theorem lVar_app (i : Nat) (γ : List T) : lVar i γ = match γ[i]? with
  | some .em => none
  | some _ => some (i, [])
  | none => none := rfl
@[scoped simp] theorem cPl_app (l : List T → Option (Nat × Pth)) (γ : List T) : cPl l γ = (l γ).bind fun p => (gAt γ p.1 p.2).bind T.top := rfl
@[scoped simp] theorem sApp_app (l : List T → Option (Nat × Pth)) (f : List T → Option D) (γ : List T) : sApp l f γ = (l γ).bind fun p => (f γ).bind fun x => (gAt γ p.1 p.2).bind fun u => match u with
  | .lst ds => if ds.length < sizeLine then some (.nx (gPut γ p.1 p.2 (.lst (ds ++ [x])))) else none
  | _ => none := rfl
@[scoped simp] theorem sAppV_app (i : Nat) (f : List T → Option (T × List T)) (γ : List T) : sAppV i f γ = match γ[i]? with
  | some (.lst _) => (f γ).bind fun q => q.1.toD.bind fun x => (match q.2[i]? with
    | some (.lst ds) => if ds.length < sizeLine then some (.nx (q.2.set i (.lst (ds ++ [x])))) else none
    | _ => none)
  | _ => none := rfl
@[scoped simp] theorem sSetI_app (i : Nat) (f : List T → Option (T × List T)) (g : List T → Option D) (γ : List T) : sSetI i f g γ = (f γ).bind fun q => q.1.toD.bind fun x => match q.2[i]? with
  | some (.lst ds) => (g q.2).bind fun k => (match k with
    | .int k => (ixN ds.length k).map fun j => .nx (q.2.set i (.lst (ds.set j x)))
    | _ => none)
  | _ => none := rfl
@[scoped simp] theorem ePop_app (i : Nat) (f : List T → Option (T × List T)) (γ : List T) : ePop i f γ = match γ[i]? with
  | some (.lst _) => (f γ).bind fun q => q.1.toD.bind fun x => match x, q.2[i]? with
    | .int j, some (.lst ds) => if -(2 ^ 63) ≤ j ∧ j < 2 ^ 63 then (seqIndex? j ds.length).bind fun k => (ds[k]?).map fun y => (.d y, q.2.set i (.lst (ds.eraseIdx k))) else none
    | _, _ => none
  | _ => none := rfl
@[scoped simp] theorem eJoin_app (f : List T → Option D) (g : List T → Option (T × List T)) (γ : List T) : eJoin f g γ = (f γ).bind fun x => (g γ).bind fun q => q.1.toD.bind fun y => (oJoin x y).map fun z => (.d z, q.2) := rfl
@[scoped simp] theorem gNl_nil (γ : List T) : gNl [] γ = some γ := rfl
@[scoped simp] theorem gCn_cons (f : D → List T → Option (List T)) (g : List D → List T → Option (List T)) (x : D) (xs : List D) (γ : List T) : gCn f g (x :: xs) γ = (f x γ).bind fun γ1 => g xs γ1 := rfl
@[scoped simp] theorem gTp_tup (n : Nat) (g : List D → List T → Option (List T)) (ds : List D) (γ : List T) : gTp n g (.tup ds) γ = if ds.length = n then g ds γ else none := rfl
@[scoped simp] theorem forS_nil (g : D → List T → Option (List T)) (b : List T → Option O) (γ : List T) : forS g b [] γ = some (.nx γ) := rfl
@[scoped simp] theorem lcP_nil (g : D → List T → Option (List T)) (c : List T → Option Bool) (f : List T → Option D) (γ : List T) : lcP g c f γ [] = some [] := rfl
@[scoped simp] theorem lcE_nil (vs : List Nat) (g : D → List T → Option (List T)) (c : List T → Option (Bool × List T)) (f : List T → Option (T × List T)) (γ : List T) : lcE vs g c f [] γ = some ([], γ) := rfl
@[scoped simp] theorem top_d (x : D) : T.top (.d x) = some x := rfl
@[scoped simp] theorem top_lst (x : List D) : T.top (.lst x) = some (.lst x) := rfl
@[scoped simp] theorem toD_d (x : D) : T.toD (.d x) = some x := by simp [T.toD]
@[scoped simp] theorem toD_lst (x : List D) : T.toD (.lst x) = some (.lst x) := by simp [T.toD]
@[scoped simp] theorem toDs_nil : T.toDs [] = some [] := by simp [T.toDs]
@[scoped simp] theorem toDs_cons (t : T) (ts : List T) : T.toDs (t :: ts) = match t.toD, T.toDs ts with
    | some x, some xs => some (x :: xs)
    | _, _ => none := by first | (rw [T.toDs]; done) | (rw [T.toDs]; cases t.toD <;> cases T.toDs ts <;> rfl)
@[scoped simp] theorem toD_obj (C : Addr) (ns : List Str) (ts : List T) : T.toD (.obj C ns ts) = (T.toDs ts).map (.ins C ns) := by simp [T.toD]
@[scoped simp] theorem toD_dic (ks : List Key) (ts : List T) : T.toD (.dic ks ts) = (T.toDs ts).map (.dic ks) := by simp [T.toD]
@[scoped simp] theorem resI_nil : resI [] [] = some [] := rfl
@[scoped simp] theorem resI_none (bs : List (Option Nat)) (t : T) (ts : List T) : resI (none :: bs) (t :: ts) = t.toD.bind fun x => (resI bs ts).map (x :: ·) := rfl
@[scoped simp] theorem resA_nil (γ : List T) : resA γ [] [] = some [] := rfl
@[scoped simp] theorem resA_none (γ : List T) (bs : List (Option Nat)) (t : T) (ts : List T) : resA γ (none :: bs) (t :: ts) = t.toD.bind fun x => (resA γ bs ts).map (x :: ·) := rfl
@[scoped simp] theorem resA_some (γ : List T) (i : Nat) (bs : List (Option Nat)) (t : T) (ts : List T) : resA γ (some i :: bs) (t :: ts) = ((γ[i]?).bind T.top).bind fun x => (resA γ bs ts).map (x :: ·) := rfl
@[scoped simp] theorem takeArgs_nil (γ : List T) : takeArgs [] [] γ = some ([], γ) := rfl
@[scoped simp] theorem takeArgs_none (bs : List (Option Nat)) (t : T) (ts γ : List T) : takeArgs (none :: bs) (t :: ts) γ = (takeArgs bs ts γ).map fun q => (t :: q.1, q.2) := rfl
@[scoped simp] theorem takeArgs_some (i : Nat) (bs : List (Option Nat)) (t : T) (ts γ : List T) : takeArgs (some i :: bs) (t :: ts) γ = match γ[i]? with
    | some (.d x) => (takeArgs bs ts γ).map fun q => (.d x :: q.1, q.2)
    | some .em => none
    | some t => (takeArgs bs ts (γ.set i .em)).map fun q => (t :: q.1, q.2)
    | none => none := rfl
@[scoped simp] theorem backArgs_nil (γ : List T) : backArgs [] [] [] γ = some γ := rfl
@[scoped simp] theorem backArgs_none (bs : List (Option Nat)) (p q : T) (ps qs γ : List T) : backArgs (none :: bs) (p :: ps) (q :: qs) γ = backArgs bs ps qs γ := rfl
@[scoped simp] theorem backArgs_d (i : Nat) (bs : List (Option Nat)) (x : D) (q : T) (ps qs γ : List T) : backArgs (some i :: bs) (.d x :: ps) (q :: qs) γ = backArgs bs ps qs γ := rfl
@[scoped simp] theorem backArgs_lst (i : Nat) (bs : List (Option Nat)) (x : List D) (q : T) (ps qs γ : List T) : backArgs (some i :: bs) (.lst x :: ps) (q :: qs) γ = backArgs bs ps qs (γ.set i q) := rfl
@[scoped simp] theorem backArgs_dic (i : Nat) (bs : List (Option Nat)) (ks : List Key) (x : List T) (q : T) (ps qs γ : List T) : backArgs (some i :: bs) (.dic ks x :: ps) (q :: qs) γ = backArgs bs ps qs (γ.set i q) := rfl
@[scoped simp] theorem backArgs_obj (i : Nat) (bs : List (Option Nat)) (C : Addr) (ks : List Str) (x : List T) (q : T) (ps qs γ : List T) : backArgs (some i :: bs) (.obj C ks x :: ps) (q :: qs) γ = backArgs bs ps qs (γ.set i q) := rfl
@[scoped simp] theorem callF_app (g : FN) (bs : List (Option Nat)) (ts γ : List T) : callF g bs ts γ = (takeArgs bs ts γ).bind fun p => match g p.1 with
  | some (.ret r post) => if post.length = p.1.length then (backArgs bs p.1 post p.2).map fun γ2 => (r, γ2) else none
  | _ => none := rfl
@[scoped simp] theorem postP_nil (γ : List T) : postP [] γ = [] := by cases γ <;> rfl
@[scoped simp] theorem postP_d (x : D) (t : T) (ps γ : List T) : postP (.d x :: ps) (t :: γ) = .d x :: postP ps γ := rfl
@[scoped simp] theorem postP_lst (x : List D) (t : T) (ps γ : List T) : postP (.lst x :: ps) (t :: γ) = t :: postP ps γ := rfl
@[scoped simp] theorem postP_dic (ks : List Key) (x : List T) (t : T) (ps γ : List T) : postP (.dic ks x :: ps) (t :: γ) = t :: postP ps γ := rfl
@[scoped simp] theorem postP_obj (C : Addr) (ks : List Str) (x : List T) (t : T) (ps γ : List T) : postP (.obj C ks x :: ps) (t :: γ) = t :: postP ps γ := rfl
@[scoped simp] theorem okW_nil (pre : List T) : okW [] pre = true := rfl
@[scoped simp] theorem okW_cons (i : Nat) (wr : List Nat) (pre : List T) : okW (i :: wr) pre = ((match pre[i]? with
  | some t => t.isD
  | none => true) && okW wr pre) := rfl
@[scoped simp] theorem isD_d (x : D) : T.isD (.d x) = true := rfl
@[scoped simp] theorem unset_nil (γ : List T) : unset [] γ = γ := rfl
@[scoped simp] theorem unset_cons (k : Nat) (vs : List Nat) (γ : List T) : unset (k :: vs) γ = (unset vs γ).set k .em := rfl
@[scoped simp] theorem isEm_app (γ : List T) (k : Nat) : isEm γ k = match γ[k]? with
  | some .em => true
  | none => true
  | _ => false := rfl
@[scoped simp] theorem oAdd_i (i j : Int) : oAdd (.int i) (.int j) = some (.int (i + j)) := rfl
@[scoped simp] theorem oAdd_s (a b : Str) : oAdd (.str a) (.str b) = if a.length + b.length ≤ sizeLine then some (.str (a ++ b)) else none := rfl
@[scoped simp] theorem oAdd_l (a b : List D) : oAdd (.lst a) (.lst b) = if a.length + b.length ≤ sizeLine then some (.lst (a ++ b)) else none := rfl
@[scoped simp] theorem oAdd_t (a b : List D) : oAdd (.tup a) (.tup b) = if a.length + b.length ≤ sizeLine then some (.tup (a ++ b)) else none := rfl
@[scoped simp] theorem oSub_i (i j : Int) : oSub (.int i) (.int j) = some (.int (i - j)) := rfl
@[scoped simp] theorem oMul_i (i j : Int) : oMul (.int i) (.int j) = if mulOk i j then some (.int (i * j)) else none := rfl
@[scoped simp] theorem oDiv_i (i j : Int) : oDiv (.int i) (.int j) = if dvOk j then some (.int (i / j)) else none := rfl
@[scoped simp] theorem dvOk_t {j : Int} (h : 0 < j) (h2 : j ≤ 18446744073709551616) : dvOk j = True := eq_true (dvOk_s h h2)
@[scoped simp] theorem oMod_i (i j : Int) : oMod (.int i) (.int j) = if 0 < j then some (.int (i % j)) else none := rfl
@[scoped simp] theorem oPow_i (i j : Int) : oPow (.int i) (.int j) = if 0 ≤ j ∧ j ≤ 1000000 ∧ i.natAbs < 2 ^ 64 then some (.int (i ^ j.toNat)) else none := rfl
@[scoped simp] theorem sEq_i (i j : Int) : sEq (.int i) (.int j) = some (decide (i = j)) := rfl
@[scoped simp] theorem sEq_s (i j : Str) : sEq (.str i) (.str j) = some (decide (i = j)) := rfl
@[scoped simp] theorem sEq_b (i j : Bool) : sEq (.bl i) (.bl j) = some (decide (i = j)) := rfl
@[scoped simp] theorem sEq_nn : sEq .non .non = some true := rfl
@[scoped simp] theorem sEq_ni (i : Int) : sEq .non (.int i) = some false := rfl
@[scoped simp] theorem sEq_in (i : Int) : sEq (.int i) .non = some false := rfl
@[scoped simp] theorem sEq_nb (i : Bool) : sEq .non (.bl i) = some false := rfl
@[scoped simp] theorem sEq_bn (i : Bool) : sEq (.bl i) .non = some false := rfl
@[scoped simp] theorem sEq_ns (i : Str) : sEq .non (.str i) = some false := rfl
@[scoped simp] theorem sEq_sn (i : Str) : sEq (.str i) .non = some false := rfl
@[scoped simp] theorem sEq_is (i : Int) (j : Str) : sEq (.int i) (.str j) = some false := rfl
@[scoped simp] theorem sEq_si (i : Int) (j : Str) : sEq (.str j) (.int i) = some false := rfl
@[scoped simp] theorem sEq_bs (i : Bool) (j : Str) : sEq (.bl i) (.str j) = some false := rfl
@[scoped simp] theorem sEq_sb (i : Bool) (j : Str) : sEq (.str j) (.bl i) = some false := rfl
@[scoped simp] theorem sEq_l (a : List D) (y : D) : sEq (.lst a) y = none := by cases y <;> rfl
@[scoped simp] theorem sEq_t (a : List D) (y : D) : sEq (.tup a) y = none := by cases y <;> rfl
@[scoped simp] theorem oEq_app (x y : D) : oEq x y = match sEq x y with
  | some b => some (.bl b)
  | none => if x.shaped = true ∧ y.shaped = true then some (.bl (D.eqv x y)) else none := rfl
@[scoped simp] theorem oNe_app (x y : D) : oNe x y = match sEq x y with
  | some b => some (.bl (!b))
  | none => if x.shaped = true ∧ y.shaped = true then some (.bl (!D.eqv x y)) else none := rfl
@[scoped simp] theorem items_l (ds : List D) : items (.lst ds) = some ds := rfl
@[scoped simp] theorem items_t (ds : List D) : items (.tup ds) = some ds := rfl
@[scoped simp] theorem walkD_l (ds : List D) : walkD (.lst ds) = some ds := rfl
@[scoped simp] theorem walkD_t (ds : List D) : walkD (.tup ds) = some ds := rfl
@[scoped simp] theorem walkD_s (s : Str) : walkD (.str s) = some (signs s) := rfl
@[scoped simp] theorem flat_n : D.flat .non = true := rfl
@[scoped simp] theorem flat_b (b : Bool) : D.flat (.bl b) = true := rfl
@[scoped simp] theorem flat_i (i : Int) : D.flat (.int i) = true := rfl
@[scoped simp] theorem flat_s (s : Str) : D.flat (.str s) = true := rfl
@[scoped simp] theorem flat_l (s : List D) : D.flat (.lst s) = false := rfl
@[scoped simp] theorem flat_t (s : List D) : D.flat (.tup s) = false := rfl
@[scoped simp] theorem all_flat_i (ns : List Int) : (ns.map D.int).all D.flat = true := by rw [List.all_map]; exact List.all_eq_true.mpr fun _ _ => rfl
@[scoped simp] theorem all_flat_s (ns : List Str) : (ns.map D.str).all D.flat = true := by rw [List.all_map]; exact List.all_eq_true.mpr fun _ _ => rfl
@[scoped simp] theorem any_fEq_i (n : Int) (ns : List Int) : ((ns.map D.int).any fun z => fEq z (.int n)) = decide (n ∈ ns) := by
  rw [List.any_map]
  induction ns with
  | nil => rfl
  | cons m ms ih => rw [List.any_cons, ih, Bool.eq_iff_iff]; simp [fEq, eq_comm (a := m)]
@[scoped simp] theorem any_fEq_s (n : Str) (ns : List Str) : ((ns.map D.str).any fun z => fEq z (.str n)) = decide (n ∈ ns) := by
  rw [List.any_map]
  induction ns with
  | nil => rfl
  | cons m ms ih => rw [List.any_cons, ih, Bool.eq_iff_iff]; simp [fEq, eq_comm (a := m)]
@[scoped simp] theorem oIn_l (x : D) (ds : List D) : oIn x (.lst ds) = if x.flat = true ∧ ds.all D.flat = true then some (.bl (ds.any fun z => fEq z x)) else if x.shaped = true ∧ (D.lst ds).shaped = true then some (.bl (ds.any fun z => D.eqv z x)) else none := rfl
@[scoped simp] theorem oIn_t (x : D) (ds : List D) : oIn x (.tup ds) = if x.flat = true ∧ ds.all D.flat = true then some (.bl (ds.any fun z => fEq z x)) else if x.shaped = true ∧ (D.tup ds).shaped = true then some (.bl (ds.any fun z => D.eqv z x)) else none := rfl
@[scoped simp] theorem oNotIn_l (x : D) (ds : List D) : oNotIn x (.lst ds) = if x.flat = true ∧ ds.all D.flat = true then some (.bl (!ds.any fun z => fEq z x)) else if x.shaped = true ∧ (D.lst ds).shaped = true then some (.bl (!ds.any fun z => D.eqv z x)) else none := rfl
@[scoped simp] theorem oNotIn_t (x : D) (ds : List D) : oNotIn x (.tup ds) = if x.flat = true ∧ ds.all D.flat = true then some (.bl (!ds.any fun z => fEq z x)) else if x.shaped = true ∧ (D.tup ds).shaped = true then some (.bl (!ds.any fun z => D.eqv z x)) else none := rfl
@[scoped simp] theorem oLt_i (i j : Int) : oLt (.int i) (.int j) = some (.bl (decide (i < j))) := rfl
@[scoped simp] theorem oLt_s (i j : Str) : oLt (.str i) (.str j) = some (.bl (decide (i.cps.toList < j.cps.toList))) := rfl
@[scoped simp] theorem oLe_i (i j : Int) : oLe (.int i) (.int j) = some (.bl (decide (i ≤ j))) := rfl
@[scoped simp] theorem oLe_s (i j : Str) : oLe (.str i) (.str j) = some (.bl (!decide (j.cps.toList < i.cps.toList))) := rfl
@[scoped simp] theorem oGt_i (i j : Int) : oGt (.int i) (.int j) = some (.bl (decide (j < i))) := rfl
@[scoped simp] theorem oGe_i (i j : Int) : oGe (.int i) (.int j) = some (.bl (decide (j ≤ i))) := rfl
@[scoped simp] theorem oIsN_i (i : Int) : oIsN (.int i) .non = some (.bl false) := rfl
@[scoped simp] theorem oIsN_s (i : Str) : oIsN (.str i) .non = some (.bl false) := rfl
@[scoped simp] theorem oIsN_b (i : Bool) : oIsN (.bl i) .non = some (.bl false) := rfl
@[scoped simp] theorem oIsN_n : oIsN .non .non = some (.bl true) := rfl
@[scoped simp] theorem oIsN_l (l : List D) : oIsN (.lst l) .non = some (.bl false) := rfl
@[scoped simp] theorem oIsN_t (l : List D) : oIsN (.tup l) .non = some (.bl false) := rfl
@[scoped simp] theorem oIsN_o (C : Addr) (ns : List Str) (l : List D) : oIsN (.ins C ns l) .non = some (.bl false) := rfl
@[scoped simp] theorem oNotN_i (i : Int) : oNotN (.int i) .non = some (.bl true) := rfl
@[scoped simp] theorem oNotN_s (i : Str) : oNotN (.str i) .non = some (.bl true) := rfl
@[scoped simp] theorem oNotN_b (i : Bool) : oNotN (.bl i) .non = some (.bl true) := rfl
@[scoped simp] theorem oNotN_n : oNotN .non .non = some (.bl false) := rfl
@[scoped simp] theorem oNotN_l (l : List D) : oNotN (.lst l) .non = some (.bl true) := rfl
@[scoped simp] theorem oNotN_t (l : List D) : oNotN (.tup l) .non = some (.bl true) := rfl
@[scoped simp] theorem oNotN_o (C : Addr) (ns : List Str) (l : List D) : oNotN (.ins C ns l) .non = some (.bl true) := rfl
@[scoped simp] theorem oNotB_b (a b : Bool) : oNotB (.bl a) (.bl b) = some (.bl (!decide (a = b))) := rfl
@[scoped simp] theorem oIx_l (ds : List D) (k : Int) : oIx (.lst ds) (.int k) = atI ds k := rfl
@[scoped simp] theorem oIx_t (ds : List D) (k : Int) : oIx (.tup ds) (.int k) = atI ds k := rfl
@[scoped simp] theorem oIx_s (w : Str) (k : Int) : oIx (.str w) (.int k) = if w.length ≤ sizeLine then (atI w.cps.toList k).map fun c => .str ⟨#[c]⟩ else none := rfl
@[scoped simp] theorem oNeg_i (i : Int) : oNeg (.int i) = some (.int (-i)) := rfl
@[scoped simp] theorem oLen_l (ds : List D) : oLen (.lst ds) = some (.int (ds.length : Nat)) := rfl
@[scoped simp] theorem oLen_t (ds : List D) : oLen (.tup ds) = some (.int (ds.length : Nat)) := rfl
@[scoped simp] theorem oLen_s (w : Str) : oLen (.str w) = if w.length ≤ sizeLine then some (.int (w.length : Nat)) else none := rfl
@[scoped simp] theorem oInt_i (i : Int) : oInt (.int i) = some (.int i) := rfl
@[scoped simp] theorem oInt_b (k : Bool) : oInt (.bl k) = some (.int (if k then 1 else 0)) := rfl
@[scoped simp] theorem oAbs_i (i : Int) : oAbs (.int i) = some (.int (if i < 0 then -i else i)) := rfl
@[scoped simp] theorem oStr_i (i : Int) : oStr (.int i) = if i.natAbs.log2 < 1920 then some (.str (toString i)) else none := rfl
@[scoped simp] theorem oMax2_i (i j : Int) : oMax2 (.int i) (.int j) = some (.int (if j > i then j else i)) := rfl
@[scoped simp] theorem oMin2_i (i j : Int) : oMin2 (.int i) (.int j) = some (.int (if j < i then j else i)) := rfl
@[scoped simp] theorem oList_l (ds : List D) : oList (.lst ds) = some (.lst ds) := rfl
@[scoped simp] theorem oList_t (ds : List D) : oList (.tup ds) = some (.lst ds) := rfl
@[scoped simp] theorem oTuple_l (ds : List D) : oTuple (.lst ds) = some (.tup ds) := rfl
@[scoped simp] theorem oTuple_t (ds : List D) : oTuple (.tup ds) = some (.tup ds) := rfl
@[scoped simp] theorem allB_map (bs : List Bool) : allB (bs.map .bl) = some bs := by induction bs with
  | nil => rfl
  | cons b bs ih => simp [allB, ih]
@[scoped simp] theorem allI_map (bs : List Int) : allI (bs.map .int) = some bs := by induction bs with
  | nil => rfl
  | cons b bs ih => simp [allI, ih]
@[scoped simp] theorem allS_map (bs : List Str) : allS (bs.map .str) = some bs := by induction bs with
  | nil => rfl
  | cons b bs ih => simp [allS, ih]
@[scoped simp] theorem oAny_l (bs : List Bool) : oAny (.lst (bs.map .bl)) = some (.bl (bs.any id)) := by simp [oAny]
@[scoped simp] theorem oAll_l (bs : List Bool) : oAll (.lst (bs.map .bl)) = some (.bl (bs.all id)) := by simp [oAll]
@[scoped simp] theorem oSl_l (ds : List D) (lo hi : Option Int) : oSl (.lst ds) lo hi = some (.lst (cutD ds lo hi)) := rfl
@[scoped simp] theorem oSl_t (ds : List D) (lo hi : Option Int) : oSl (.tup ds) lo hi = some (.tup (cutD ds lo hi)) := rfl
@[scoped simp] theorem oRev_l (ds : List D) : oRev (.lst ds) = some (.lst ds.reverse) := rfl
@[scoped simp] theorem atI_00 {α : Type} (x : α) (xs : List α) : atI (x :: xs) 0 = some x := atI_nat (j := 0) (xs := x :: xs) rfl
@[scoped simp] theorem atI_11 {α : Type} (x y : α) (xs : List α) : atI (x :: y :: xs) 1 = some y := atI_nat (j := 1) (xs := x :: y :: xs) rfl
@[scoped simp] theorem atI_22 {α : Type} (x y z : α) (xs : List α) : atI (x :: y :: z :: xs) 2 = some z := atI_nat (j := 2) (xs := x :: y :: z :: xs) rfl
theorem lcP_map {α : Type} {enc : α → D} {g : D → List T → Option (List T)} {c : List T → Option Bool} {f : List T → Option D} {γ : List T} (p : α → Bool) (w : α → D) : ∀ (xs : List α), (∀ x ∈ xs, ∃ γ1, g (enc x) γ = some γ1 ∧ c γ1 = some (p x) ∧ (p x = true → f γ1 = some (w x))) → lcP g c f γ (xs.map enc) = some ((xs.filter p).map w)
  | [], _ => rfl
  | x :: xs, h => by
    obtain ⟨γ1, e1, e2, e3⟩ := h x (by simp)
    rw [List.map_cons]
    unfold lcP
    rw [e1, Option.bind_some, e2, Option.bind_some, lcP_map p w xs fun y m => h y (by simp [m])]
    cases hp : p x with
    | true => simp [e3 hp, hp]
    | false => simp [hp]
theorem lcP_mapT {α : Type} {enc : α → D} {g : D → List T → Option (List T)} {f : List T → Option D} {γ : List T} (w : α → D) (xs : List α) (h : ∀ x ∈ xs, ∃ γ1, g (enc x) γ = some γ1 ∧ f γ1 = some (w x)) : lcP g bYes f γ (xs.map enc) = some (xs.map w) := by
  have := lcP_map (c := bYes) (fun _ => true) w xs fun x m => let ⟨γ1, e1, e2⟩ := h x m; ⟨γ1, e1, rfl, fun _ => e2⟩
  rwa [filter_true] at this
end FD.FD9
namespace G01
open PySem PySem.Spec PyProof.Rows L2 FD FD.FD9
abbrev Bg := Int × Int
def okB (s : Bg) : Prop := 0 ≤ s.1 ∧ 0 ≤ s.2 ∧ s.2 < 2147483563
def bg (s : Bg) : T := .lst [.int s.1, .int s.2]
def tkS (s : Bg) (n : Int) : Bg := if 0 < s.1 then (s.1 / n, s.2) else (s.1, (s.2 * 40014 + 7919) % 2147483563)
def tk (s : Bg) (n : Int) : Int := if 0 < s.1 then s.1 % n else (((s.2 * 40014 + 7919) % 2147483563) / 7 * 40692) % 2147483399 / 16 % n
theorem take_eq {s : Bg} {n : Int} (cl : Nat → Addr) (h : okB s) (hl : dvOk n) : f_law_take cl [bg s, .d (.int n)] = some (.ret (.d (.int (tk s n))) [bg (tkS s n), .d (.int n)]) := by
  obtain ⟨a, b⟩ := s
  obtain ⟨h1, h2, h3⟩ := h
  have hn := hl.1
  by_cases ha : 0 < a
  · simp [f_law_take, b_law_take, bg, tk, tkS, ha, hn, hl, ixN]
  · have m1 : mulOk b 40014 := lgMul ⟨by omega, by omega⟩ ⟨by decide, by decide⟩
    have m2 : mulOk ((b * 40014 + 7919) % 2147483563 / 7) 40692 := lgMul ⟨by omega, by omega⟩ ⟨by decide, by decide⟩
    simp [f_law_take, b_law_take, bg, tk, tkS, ha, hn, hl, ixN, m1, m2]
theorem tkS_ok {s : Bg} {n : Int} (h : okB s) (hn : 0 < n) : okB (tkS s n) := by
  obtain ⟨a, b⟩ := s
  obtain ⟨h1, h2, h3⟩ := h
  unfold tkS okB
  split
  · exact ⟨Int.ediv_nonneg h1 (by omega), h2, h3⟩
  · exact ⟨h1, by omega, by omega⟩
theorem tk_rng {s : Bg} {n : Int} (h : okB s) (hn : 0 < n) : 0 ≤ tk s n ∧ tk s n < n := by
  unfold tk
  split
  · exact ⟨Int.emod_nonneg _ (by omega), Int.emod_lt_of_pos _ hn⟩
  · exact ⟨Int.emod_nonneg _ (by omega), Int.emod_lt_of_pos _ hn⟩
end G01
namespace G01
open PySem PySem.Spec PyProof.Rows L2 FD FD.FD9
theorem lcE_ex {S : Type} (Γ : S → List T) (P : S → Prop) (R : D → Prop) {vs : List Nat} {g : D → List T → Option (List T)} {f : List T → Option (T × List T)} {ok : D → Prop} (hb : ∀ s d, P s → ok d → ∃ γ1 t γ3 y s', g d (Γ s) = some γ1 ∧ f γ1 = some (t, γ3) ∧ t.toD = some y ∧ unset vs γ3 = Γ s' ∧ P s' ∧ R y) :
    ∀ ds s, P s → (∀ d ∈ ds, ok d) → ∃ ys s', lcE vs g (eT bYes) f ds (Γ s) = some (ys, Γ s') ∧ P s' ∧ ys.length = ds.length ∧ ∀ y ∈ ys, R y
  | [], s, h, _ => ⟨[], s, rfl, h, rfl, fun y hy => by simp at hy⟩
  | d :: ds, s, h, hd => by
    obtain ⟨γ1, t, γ3, y, s1, e1, e2, e3, e4, p1, r1⟩ := hb s d h (hd d (by simp))
    obtain ⟨ys, s2, e5, p2, l2, r2⟩ := lcE_ex Γ P R hb ds s1 p1 fun d m => hd d (by simp [m])
    refine ⟨y :: ys, s2, ?_, p2, by simp [l2], fun z hz => ?_⟩
    · unfold lcE
      rw [e1, Option.bind_some]
      have : eT bYes γ1 = some (true, γ1) := rfl
      rw [this, Option.bind_some]
      simp only [if_true]
      rw [e2, Option.bind_some]
      simp only
      rw [e3, Option.bind_some, e4, e5]
      rfl
    · rcases List.mem_cons.mp hz with rfl | hz
      · exact r1
      · exact r2 z hz
def wd (cs : List Nat) : Str := ⟨cs.toArray⟩
def okW (cs : List Nat) : Prop := 1 ≤ cs.length ∧ cs.length ≤ 8 ∧ ∀ c ∈ cs, 97 ≤ c ∧ c ≤ 122
theorem str_app (a b : List Nat) : wd a ++ wd b = wd (a ++ b) := by
  show Str.mk (a.toArray ++ b.toArray) = Str.mk (a ++ b).toArray
  simp
theorem join_one : ∀ (cs : List Nat), Str.join (wd []) (cs.map fun c => wd [c]) = wd cs
  | [] => rfl
  | [c] => rfl
  | c :: d :: cs => by
    have h := join_one (d :: cs)
    show wd [c] ++ wd [] ++ Str.join (wd []) ((d :: cs).map fun c => wd [c]) = _
    rw [h, str_app, str_app]
    rfl
def wL (cs : List Nat) : List D := cs.map fun c => .str (wd [c])
theorem wL_len (cs : List Nat) : (wL cs).length = cs.length := by simp [wL]
theorem wL_eq (cs : List Nat) : wL cs = (cs.map fun c => wd [c]).map .str := by simp [wL]
def isL (y : D) : Prop := ∃ c : Nat, y = .str (wd [c]) ∧ 97 ≤ c ∧ c ≤ 122
theorem isL_all : ∀ {ys : List D}, (∀ y ∈ ys, isL y) → ∃ cs : List Nat, ys = wL cs ∧ cs.length = ys.length ∧ ∀ c ∈ cs, 97 ≤ c ∧ c ≤ 122
  | [], _ => ⟨[], rfl, rfl, fun c h => by simp at h⟩
  | y :: ys, h => by
    obtain ⟨c, rfl, h1⟩ := h y (by simp)
    obtain ⟨cs, rfl, h2, h3⟩ := isL_all (ys := ys) fun z hz => h z (by simp [hz])
    refine ⟨c :: cs, rfl, by simpa using h2, fun d hd => ?_⟩
    rcases List.mem_cons.mp hd with rfl | hd
    · exact h1
    · exact h3 d hd
theorem abc {i : Int} (h : 0 ≤ i) (h2 : i < 26) : ∃ c : Nat, atI (("abcdefghijklmnopqrstuvwxyz" : Str).cps.toList) i = some c ∧ 97 ≤ c ∧ c ≤ 122 := by
  obtain ⟨n, rfl⟩ := Int.eq_ofNat_of_zero_le h
  have hn : n < 26 := by omega
  have : ∀ n : Nat, n < 26 → ∃ c : Nat, atI (("abcdefghijklmnopqrstuvwxyz" : Str).cps.toList) (n : Int) = some c ∧ 97 ≤ c ∧ c ≤ 122 := by
    intro n hn
    have h3 : n ∈ List.range 26 := List.mem_range.mpr hn
    have key : ∀ n ∈ List.range 26, (atI (("abcdefghijklmnopqrstuvwxyz" : Str).cps.toList) ((n : Nat) : Int)) = some (97 + n) := by decide +kernel
    exact ⟨97 + n, key n h3, by omega, by omega⟩
  exact this n hn
theorem allS_strs : ∀ {ys : List Str}, allS (ys.map .str) = some ys
  | [] => rfl
  | y :: ys => by simp [allS, allS_strs (ys := ys)]
theorem sum_one : ∀ (cs : List Nat), ((cs.map fun c => wd [c]).map (·.length)).sum = cs.length
  | [] => rfl
  | c :: cs => by
    have := sum_one cs
    simp only [List.map_cons, List.sum_cons, this, List.length_cons]
    show 1 + cs.length = cs.length + 1
    omega
theorem oJoin_one {cs : List Nat} (h : cs.length ≤ 100) : oJoin (.str (Str.ofString "")) (.lst (wL cs)) = some (.str (wd cs)) := by
  rw [wL_eq]
  unfold oJoin
  have e : Str.ofString "" = wd [] := by decide
  have l0 : (wd []).length = 0 := rfl
  simp only [items, Option.bind_some, allS_strs, sum_one, e, l0]
  rw [if_pos (by simp; omega), join_one]
theorem takeE {s : Bg} {n : Int} (cl : Nat → Addr) (h : okB s) (hl : dvOk n) : f_law_take cl [.lst [.int s.1, .int s.2], .d (.int n)] = some (.ret (.d (.int (tk s n))) [.lst [.int (tkS s n).1, .int (tkS s n).2], .d (.int n)]) := take_eq cl h hl
theorem name_ex {s : Bg} (cl : Nat → Addr) (h : okB s) : ∃ cs s', okW cs ∧ okB s' ∧ f_law_name cl [bg s] = some (.ret (.d (.str (wd cs))) [bg s']) := by
  have d8 : dvOk 8 := by decide
  have d26 : dvOk 26 := by decide
  have r8 := tk_rng (s := s) (n := 8) h (by omega)
  have h1 := tkS_ok (s := s) (n := 8) h (by omega)
  obtain ⟨ys, s2, e1, p1, l1, r1⟩ := lcE_ex (S := Bg) (fun s' => [bg s', .d (.int (1 + tk s 8)), .em]) okB isL (vs := [2]) (g := gN 2) (f := (eOp [none, none] oIx (aCons (eP (pC (.str "abcdefghijklmnopqrstuvwxyz"))) (aCons (eCall (f_law_take cl) [some 0, none] (aBor 0 (aCons (eP (pC (.int 26))) aNil))) aNil)))) (ok := fun _ => True) (fun s' d hs _ => by
      have r26 := tk_rng (s := s') (n := 26) hs (by omega)
      obtain ⟨c, hc, hc2⟩ := abc r26.1 r26.2
      have hz : (("abcdefghijklmnopqrstuvwxyz" : Str)).length ≤ sizeLine := by decide
      refine ⟨[bg s', .d (.int (1 + tk s 8)), .d d], .d (.str (wd [c])), [bg (tkS s' 26), .d (.int (1 + tk s 8)), .d d], .str (wd [c]), tkS s' 26, rfl, ?_, rfl, rfl, tkS_ok hs (by omega), c, rfl, hc2⟩
      simp [bg, takeE cl hs d26, oIx, hz, hc]
      try rfl) (intsD 0 (1 + tk s 8).toNat) (tkS s 8) h1 (fun _ _ => trivial)
  obtain ⟨cs, rfl, h2, h3⟩ := isL_all r1
  have hl : cs.length = (1 + tk s 8).toNat := by
    have := l1
    simp [intsD, wL_len] at this
    omega
  refine ⟨cs, s2, ⟨by omega, by omega, h3⟩, p1, ?_⟩
  have hsz : (intsD 0 (1 + tk s 8).toNat).length < sizeLine := by
    have : (intsD 0 (1 + tk s 8).toNat).length = (1 + tk s 8).toNat := by simp [intsD]
    rw [this]
    have : (9 : Nat) < sizeLine := by decide
    omega
  have hr : -4611686018427387904 ≤ 1 + tk s 8 ∧ 1 + tk s 8 < 4611686018427387904 := by omega
  simp only [bg] at e1
  simp [f_law_name, b_law_name, bg, takeE cl h d8, hr, hsz, e1, T.toD, oJoin_one (cs := cs) (by omega), postP]
  try trace_state
end G01
namespace G01
open PySem PySem.Spec PyProof.Rows L2 FD FD.FD9
theorem le_a {c : Nat} (h : 97 ≤ c) : oLe (.str (Str.ofString "a")) (.str ⟨#[c]⟩) = some (.bl true) := by
  have e : (Str.ofString "a").cps.toList = [97] := by decide
  have : ¬ ([c] < [97]) := fun z => by
    rw [List.cons_lt_cons_iff] at z
    rcases z with z | ⟨_, z⟩
    · omega
    · exact absurd z (List.not_lt_nil _)
  simp only [oLe, e]
  rw [decide_eq_false this]
  rfl
theorem le_z {c : Nat} (h : c ≤ 122) : oLe (.str ⟨#[c]⟩) (.str (Str.ofString "z")) = some (.bl true) := by
  have e : (Str.ofString "z").cps.toList = [122] := by decide
  have : ¬ ([122] < [c]) := fun z => by
    rw [List.cons_lt_cons_iff] at z
    rcases z with z | ⟨_, z⟩
    · omega
    · exact absurd z (List.not_lt_nil _)
  simp only [oLe, e]
  rw [decide_eq_false this]
  rfl
theorem allB_true : ∀ {xs : List D}, (∀ x ∈ xs, x = .bl true) → ∃ bs, FD.allB xs = some bs ∧ bs.all id = true
  | [], _ => ⟨[], rfl, rfl⟩
  | x :: xs, h => by
    obtain ⟨bs, e, hb⟩ := allB_true (xs := xs) fun y m => h y (by simp [m])
    cases h x (by simp)
    exact ⟨true :: bs, by simp [FD.allB, e], by simp [hb]⟩
theorem is_name_ok {cs : List Nat} (cl : Nat → Addr) (h : okW cs) : f_is_name cl [.d (.str (wd cs))] = some (.ret (.d (.bl true)) [.d (.str (wd cs))]) := by
  obtain ⟨h1, h2, h3⟩ := h
  have hl : (wd cs).length = cs.length := by simp [wd, Str.length]
  have hz : (wd cs).length ≤ sizeLine := by rw [hl]; have : (8 : Nat) ≤ sizeLine := by decide
                                            omega
  have hlc := lcP_mapT (enc := fun c : Nat => D.str ⟨#[c]⟩) (g := gN 1) (f := (pChain oLe oLe (pC (.str "a")) (pVar 1) (pC (.str "z")))) (γ := [.d (.str (wd cs)), .em]) (fun _ => .bl true) cs (fun c hc => ⟨[.d (.str (wd cs)), .d (.str ⟨#[c]⟩)], rfl, by simp [le_a (h3 c hc).1, le_z (h3 c hc).2]⟩)
  have hsg : FD.signs (wd cs) = cs.map fun c : Nat => D.str ⟨#[c]⟩ := by simp [FD.signs, wd]
  obtain ⟨bs, e1, e2⟩ := allB_true (xs := cs.map fun _ => D.bl true) (fun x hx => by simp at hx; exact hx.2.symm)
  have hi : oIsi2 (.str (wd cs)) (.raw (.ty "str")) = some (.bl true) := by rfl
  have hle1 : oLe (.int 1) (.int (cs.length : Nat)) = some (.bl true) := by simp [oLe]; omega
  have hle2 : oLe (.int (cs.length : Nat)) (.int 8) = some (.bl true) := by simp [oLe]; omega
  have hlt : cs.length < sizeLine := by have : (9 : Nat) ≤ sizeLine := by decide
                                        omega
  have hz2 : cs.length ≤ sizeLine := by omega
  simp [f_is_name, b_is_name, hz, hz2, hl, hi, hle1, hle2, walkD, hsg, hlc, hlt, oLen, oAll, e1, e2, postP]
end G01
namespace G01
open PySem PySem.Spec PyProof.Rows L2 FD FD.FD9
end G01
namespace G01
open PySem PySem.Spec PyProof.Rows L2 FD FD.FD9
def nL (ws : List (List Nat)) : List D := ws.map fun w => .str (wd w)
theorem nL_len (ws : List (List Nat)) : (nL ws).length = ws.length := by simp [nL]
def isN (y : D) : Prop := ∃ w : List Nat, y = .str (wd w) ∧ okW w
theorem isN_all : ∀ {ys : List D}, (∀ y ∈ ys, isN y) → ∃ ws, ys = nL ws ∧ ∀ w ∈ ws, okW w
  | [], _ => ⟨[], rfl, fun c h => by simp at h⟩
  | y :: ys, h => by
    obtain ⟨w, rfl, h1⟩ := h y (by simp)
    obtain ⟨ws, rfl, h3⟩ := isN_all (ys := ys) fun z hz => h z (by simp [hz])
    refine ⟨w :: ws, rfl, fun d hd => ?_⟩
    rcases List.mem_cons.mp hd with rfl | hd
    · exact h1
    · exact h3 d hd
theorem names_of {s : Bg} (cl : Nat → Addr) (h : okB s) (k : Nat) (rest : List T) (vs : List Nat) (j : Nat) (hv : ∀ (s' : Bg) (d : D), unset vs (([bg s'] ++ rest).set j (.d d)) = [bg s'] ++ rest) (hj : 1 ≤ j) : ∃ ws s', (∀ w ∈ ws, okW w) ∧ ws.length = k ∧ okB s' ∧ lcE vs (gN j) (eT bYes) (eCall (f_law_name cl) [some 0] (aBor 0 aNil)) (intsD 0 k) ([bg s] ++ rest) = some (nL ws, [bg s'] ++ rest) := by
  obtain ⟨ys, s2, e1, p1, l1, r1⟩ := lcE_ex (S := Bg) (fun s' => [bg s'] ++ rest) okB isN (vs := vs) (g := gN j) (f := (eCall (f_law_name cl) [some 0] (aBor 0 aNil))) (ok := fun _ => True) (fun s' d hs _ => by
      obtain ⟨w, s3, hw, hs3, e⟩ := name_ex cl hs
      obtain ⟨j', rfl⟩ : ∃ j', j = j' + 1 := ⟨j - 1, by omega⟩
      refine ⟨[bg s'] ++ rest.set j' (.d d), .d (.str (wd w)), [bg s3] ++ rest.set j' (.d d), .str (wd w), s3, rfl, ?_, rfl, hv s3 d, hs3, w, rfl, hw⟩
      simp only [bg] at e
      simp [bg, e]) (intsD 0 k) s h (fun _ _ => trivial)
  obtain ⟨ws, rfl, h2⟩ := isN_all r1
  refine ⟨ws, s2, h2, ?_, p1, e1⟩
  have := l1
  simp [intsD, nL_len] at this
  exact this
end G01
namespace G01
open PySem PySem.Spec PyProof.Rows L2 FD FD.FD9
theorem last_ex {ws : List (List Nat)} (h : 1 < ws.length) : ∃ w ∈ ws, atI (nL ws) (-1) = some (.str (wd w)) := by
  obtain ⟨init, w, rfl⟩ : ∃ init w, ws = init ++ [w] := ⟨ws.dropLast, ws.getLast (by intro e; simp [e] at h), (List.dropLast_concat_getLast _).symm⟩
  refine ⟨w, by simp, ?_⟩
  have hl : (nL (init ++ [w])).length = init.length + 1 := by simp [nL]
  have hi : ixN (init.length + 1) (-1) = some init.length := by
    simp [ixN]
    omega
  unfold atI
  rw [hl, hi, Option.bind_some]
  simp [nL]
theorem set0 (ws : List (List Nat)) (w : List Nat) : (nL ws).set 0 (.str (wd w)) = nL (ws.set 0 w) := by
  simp [nL, List.map_set]
theorem names_ex {s : Bg} (cl : Nat → Addr) (h : okB s) : ∃ ws s', (∀ w ∈ ws, okW w) ∧ ws.length ≤ 8 ∧ okB s' ∧ f_law_names cl [bg s, .d (.int 8)] = some (.ret (.lst (nL ws)) [bg s', .d (.int 8)]) := by
  have dm : dvOk 9 := by decide
  have d3 : dvOk 3 := by decide
  have r0 := tk_rng (s := s) (n := 9) h (by omega)
  have h0 := tkS_ok (s := s) (n := 9) h (by omega)
  obtain ⟨ws, s1, hw, hl, h1, e1⟩ := names_of cl h0 (tk s 9).toNat [.d (.int 8), .em, .em] [3] 3 (fun s' d => rfl) (by omega)
  have hsz : (intsD 0 (tk s 9).toNat).length < sizeLine := by
    have : (intsD 0 (tk s 9).toNat).length = (tk s 9).toNat := by simp [intsD]
    rw [this]
    have : (9 : Nat) < sizeLine := by decide
    omega
  have hr : -4611686018427387904 ≤ tk s 9 ∧ tk s 9 < 4611686018427387904 := by omega
  simp only [bg, List.cons_append, List.nil_append] at e1
  by_cases hbig : 1 < ws.length
  · have hbI : (1 : Int) < (ws.length : Int) := by omega
    have h2 := tkS_ok (s := s1) (n := 3) h1 (by omega)
    obtain ⟨w, hwm, ew⟩ := last_ex hbig
    by_cases hz : tk s1 3 = 0
    · refine ⟨ws.set 0 w, tkS s1 3, fun v hv => ?_, by simp; omega, h2, ?_⟩
      · rcases List.mem_or_eq_of_mem_set hv with z | rfl
        · exact hw v z
        · exact hw _ hwm
      · simp [f_law_names, b_law_names, bg, takeE cl h dm, hr, hsz, e1, nL_len, hbI, takeE cl h1 d3, hz, ew, set0, postP, ixN, (by omega : 0 < ws.length)]
    · refine ⟨ws, tkS s1 3, hw, by omega, h2, ?_⟩
      simp [f_law_names, b_law_names, bg, takeE cl h dm, hr, hsz, e1, nL_len, hbI, takeE cl h1 d3, hz, postP]
  · have hbI : ¬ (1 : Int) < (ws.length : Int) := by omega
    refine ⟨ws, s1, hw, by omega, h1, ?_⟩
    simp [f_law_names, b_law_names, bg, takeE cl h dm, hr, hsz, e1, nL_len, hbI, postP]
end G01
namespace G01
open PySem PySem.Spec PyProof.Rows L2 FD FD.FD9
abbrev NN : Int := 1000000000000000000000000000000
end G01
namespace G01
open PySem PySem.Spec PyProof.Rows L2 FD FD.FD9
/-- drawn fields of a right letter -/
structure Fd where
  n : Int
  p : List Nat
  q : List Nat
  as : List Int
  sub : List (List Nat)
  ws : List (List Nat)
def okF (f : Fd) : Prop := 1 ≤ f.n ∧ f.n ≤ NN ∧ okW f.p ∧ okW f.q ∧ (f.as.Nodup ∧ (∀ a ∈ f.as, 1 ≤ a ∧ a ≤ NN ∧ a ≠ f.n) ∧ f.as.length ≤ 8) ∧ ((∀ w ∈ f.sub, okW w) ∧ f.sub.length ≤ 8) ∧ ((∀ w ∈ f.ws, okW w) ∧ f.ws.length ≤ 40)
end G01
namespace G01
open PySem PySem.Spec PyProof.Rows L2 FD FD.FD9
end G01
namespace G01
open PySem PySem.Spec PyProof.Rows L2 FD FD.FD9
end G01
namespace G01
open PySem PySem.Spec PyProof.Rows L2 FD FD.FD9
end G01
namespace G01
open PySem PySem.Spec PyProof.Rows L2 FD FD.FD9
theorem wd_inj {a b : List Nat} : wd a = wd b ↔ a = b := ⟨fun h => by
  have : a.toArray = b.toArray := Str.mk.inj h
  simpa using this, fun h => h ▸ rfl⟩
theorem oEqs (a b : List Nat) : oEq (.str (wd a)) (.str (wd b)) = some (.bl (decide (a = b))) := by
  show some (D.bl (decide (wd a = wd b))) = _
  simp only [wd_inj]
def eqF (f g : Fd) : Prop := f.n = g.n ∧ f.p = g.p ∧ f.q = g.q ∧ f.as = g.as ∧ f.sub = g.sub ∧ f.ws = g.ws
instance (f g : Fd) : Decidable (eqF f g) := by unfold eqF; infer_instance
end G01
namespace FD
open PySem PySem.Spec PyProof.Rows L2
open G01 (wd wd_inj)
structure Enc (α : Type) [DecidableEq α] where
  enc : α → D
  ok : α → Prop
  dep : Nat
  flt : Bool
  pure : ∀ a, D.pure (enc a) = true
  lay : ∀ a, ok a → (enc a).py.canLay0 = true
  depth : ∀ a, (enc a).py.depth ≤ dep
  eqv : ∀ a b, D.eqv (enc a) (enc b) = decide (a = b)
  seq : ∀ a b, sEq (enc a) (enc b) = none ∨ sEq (enc a) (enc b) = some (decide (a = b))
  flat : ∀ a, (enc a).flat = flt
  feq : flt = true → ∀ a b, fEq (enc a) (enc b) = decide (a = b)
namespace Enc
section
variable {α β γ : Type} [DecidableEq α] [DecidableEq β] [DecidableEq γ]
def B : Enc Bool where
  enc := .bl
  ok _ := True
  dep := 0
  flt := true
  pure _ := rfl
  lay _ _ := by unfold D.py PyData.canLay0; rfl
  depth _ := by unfold D.py PyData.depth; omega
  eqv a b := by
    show (a == b) = _
    rw [Bool.eq_iff_iff]; simp
  seq a b := .inr rfl
  flat _ := rfl
  feq _ a b := by
    show (a == b) = _
    rw [Bool.eq_iff_iff]; simp
def okS (cs : List Nat) : Prop := ∀ c ∈ cs, c < 1000
def S : Enc (List Nat) where
  enc w := .str (wd w)
  ok := okS
  dep := 0
  flt := true
  pure _ := rfl
  lay w h := by
    show PyData.canLay0 (.str (wd w)) = true
    unfold PyData.canLay0 PyData.strOk
    simp [wd]
    exact fun x hx => by have := h x hx; omega
  depth _ := by show PyData.depth (.str _) ≤ 0; unfold PyData.depth; omega
  eqv a b := by
    show (wd a == wd b) = _
    rw [Bool.eq_iff_iff]; simp [wd_inj]
  seq a b := .inr (by
    show some (decide (wd a = wd b)) = _
    congr 1
    exact decide_eq_decide.mpr wd_inj)
  flat _ := rfl
  feq _ a b := by
    show (wd a == wd b) = _
    rw [Bool.eq_iff_iff]; simp [wd_inj]
def N : Enc Unit where
  enc _ := .non
  ok _ := True
  dep := 0
  flt := true
  pure _ := rfl
  lay _ _ := by unfold D.py PyData.canLay0; rfl
  depth _ := by unfold D.py PyData.depth; omega
  eqv a b := rfl
  seq a b := .inr rfl
  flat _ := rfl
  feq _ a b := rfl
theorem pureA_map (A : Enc α) : ∀ xs : List α, D.pureA (xs.map A.enc) = true
  | [] => rfl
  | x :: xs => by
    show (D.pure (A.enc x) && D.pureA (xs.map A.enc)) = true
    rw [A.pure, pureA_map A xs]
    rfl
theorem layA_map (A : Enc α) : ∀ xs : List α, (∀ a ∈ xs, A.ok a) → PyData.canLayAll0 (D.pyA (xs.map A.enc)) = true
  | [], _ => rfl
  | x :: xs, h => by
    show (PyData.canLay0 (A.enc x).py && PyData.canLayAll0 (D.pyA (xs.map A.enc))) = true
    rw [A.lay x (h x (by simp)), layA_map A xs fun a m => h a (by simp [m])]
    rfl
theorem depA_map (A : Enc α) : ∀ xs : List α, PyData.depthAll (D.pyA (xs.map A.enc)) ≤ A.dep
  | [] => Nat.zero_le _
  | x :: xs => by
    have h1 := A.depth x
    have h2 := depA_map A xs
    show max (PyData.depth (A.enc x).py) (PyData.depthAll (D.pyA (xs.map A.enc))) ≤ A.dep
    omega
theorem eqvA_map (A : Enc α) : ∀ xs ys : List α, PyData.eqvAll (D.pyA (xs.map A.enc)) (D.pyA (ys.map A.enc)) = decide (xs = ys)
  | [], [] => rfl
  | [], _ :: _ => rfl
  | _ :: _, [] => rfl
  | x :: xs, y :: ys => by
    show (D.eqv (A.enc x) (A.enc y) && PyData.eqvAll (D.pyA (xs.map A.enc)) (D.pyA (ys.map A.enc))) = _
    rw [A.eqv, eqvA_map A xs ys, Bool.eq_iff_iff]
    simp
/-- lists -/
def L (A : Enc α) : Enc (List α) where
  enc xs := .lst (xs.map A.enc)
  ok xs := ∀ a ∈ xs, A.ok a
  dep := A.dep + 1
  flt := false
  pure xs := A.pureA_map xs
  lay xs h := A.layA_map xs h
  depth xs := by
    have := A.depA_map xs
    show PyData.depthAll (D.pyA (xs.map A.enc)) + 1 ≤ _
    omega
  eqv xs ys := A.eqvA_map xs ys
  seq xs ys := .inl rfl
  flat _ := rfl
  feq h := nomatch h
/-- tuples of one kind -/
def T (A : Enc α) : Enc (List α) where
  enc xs := .tup (xs.map A.enc)
  ok xs := ∀ a ∈ xs, A.ok a
  dep := A.dep + 1
  flt := false
  pure xs := A.pureA_map xs
  lay xs h := A.layA_map xs h
  depth xs := by
    have := A.depA_map xs
    show PyData.depthAll (D.pyA (xs.map A.enc)) + 1 ≤ _
    omega
  eqv xs ys := A.eqvA_map xs ys
  seq xs ys := .inl rfl
  flat _ := rfl
  feq h := nomatch h
/-- pairs -/
def P (A : Enc α) (B : Enc β) : Enc (α × β) where
  enc p := .tup [A.enc p.1, B.enc p.2]
  ok p := A.ok p.1 ∧ B.ok p.2
  dep := max A.dep B.dep + 1
  flt := false
  pure p := by
    show (D.pure _ && (D.pure _ && true)) = true
    rw [A.pure, B.pure]; rfl
  lay p h := by
    show (PyData.canLay0 _ && (PyData.canLay0 _ && true)) = true
    rw [A.lay _ h.1, B.lay _ h.2]; rfl
  depth p := by
    have h1 := A.depth p.1
    have h2 := B.depth p.2
    show max (PyData.depth (A.enc p.1).py) (max (PyData.depth (B.enc p.2).py) 0) + 1 ≤ _
    omega
  eqv p q := by
    show (D.eqv (A.enc p.1) (A.enc q.1) && (D.eqv (B.enc p.2) (B.enc q.2) && true)) = _
    rw [A.eqv, B.eqv, Bool.eq_iff_iff]
    simp [Prod.ext_iff]
  seq _ _ := .inl rfl
  flat _ := rfl
  feq h := nomatch h
/-- triples -/
def P3 (A : Enc α) (B : Enc β) (C : Enc γ) : Enc (α × β × γ) where
  enc p := .tup [A.enc p.1, B.enc p.2.1, C.enc p.2.2]
  ok p := A.ok p.1 ∧ B.ok p.2.1 ∧ C.ok p.2.2
  dep := max A.dep (max B.dep C.dep) + 1
  flt := false
  pure p := by
    show (D.pure _ && (D.pure _ && (D.pure _ && true))) = true
    rw [A.pure, B.pure, C.pure]; rfl
  lay p h := by
    show (PyData.canLay0 _ && (PyData.canLay0 _ && (PyData.canLay0 _ && true))) = true
    rw [A.lay _ h.1, B.lay _ h.2.1, C.lay _ h.2.2]; rfl
  depth p := by
    have h1 := A.depth p.1
    have h2 := B.depth p.2.1
    have h3 := C.depth p.2.2
    show max (PyData.depth (A.enc p.1).py) (max (PyData.depth (B.enc p.2.1).py) (max (PyData.depth (C.enc p.2.2).py) 0)) + 1 ≤ _
    omega
  eqv p q := by
    show (D.eqv (A.enc p.1) (A.enc q.1) && (D.eqv (B.enc p.2.1) (B.enc q.2.1) && (D.eqv (C.enc p.2.2) (C.enc q.2.2) && true))) = _
    rw [A.eqv, B.eqv, C.eqv, Bool.eq_iff_iff]
    simp [Prod.ext_iff]
  seq _ _ := .inl rfl
  flat _ := rfl
  feq h := nomatch h
variable (A : Enc α)
theorem shaped {a : α} (h : A.ok a) (hd : A.dep ≤ 64) : (A.enc a).shaped = true := by
  have h1 := A.depth a
  show (D.pure _ && (PyData.canLay0 _ && decide (_ ≤ 64))) = true
  rw [A.pure, A.lay a h, decide_eq_true (by omega)]
  rfl
theorem eq {a b : α} (ha : A.ok a) (hb : A.ok b) (hd : A.dep ≤ 64 := by decide) : oEq (A.enc a) (A.enc b) = some (.bl (decide (a = b))) := by
  unfold oEq
  rcases A.seq a b with e | e
  · rw [e, if_pos ⟨A.shaped ha hd, A.shaped hb hd⟩, A.eqv]
  · rw [e]
theorem ne {a b : α} (ha : A.ok a) (hb : A.ok b) (hd : A.dep ≤ 64 := by decide) : oNe (A.enc a) (A.enc b) = some (.bl (!decide (a = b))) := by
  unfold oNe
  rcases A.seq a b with e | e
  · rw [e, if_pos ⟨A.shaped ha hd, A.shaped hb hd⟩, A.eqv]
  · rw [e]
theorem any_feq (h : A.flt = true) (a : α) : ∀ xs : List α, ((xs.map A.enc).any fun z => fEq z (A.enc a)) = decide (a ∈ xs)
  | [] => rfl
  | x :: xs => by
    rw [List.map_cons, List.any_cons, A.feq h, any_feq h a xs, Bool.eq_iff_iff, Bool.or_eq_true, decide_eq_true_iff, decide_eq_true_iff, decide_eq_true_iff, List.mem_cons]
    exact or_congr_left eq_comm
theorem any_eqv (a : α) : ∀ xs : List α, ((xs.map A.enc).any fun z => D.eqv z (A.enc a)) = decide (a ∈ xs)
  | [] => rfl
  | x :: xs => by
    rw [List.map_cons, List.any_cons, A.eqv, any_eqv a xs, Bool.eq_iff_iff, Bool.or_eq_true, decide_eq_true_iff, decide_eq_true_iff, decide_eq_true_iff, List.mem_cons]
    exact or_congr_left eq_comm
theorem all_flat (h : A.flt = true) (xs : List α) : (xs.map A.enc).all D.flat = true := by
  rw [List.all_map]
  exact List.all_eq_true.mpr fun a _ => (A.flat a).trans h
theorem inL {a : α} {xs : List α} (ha : A.ok a) (hx : ∀ x ∈ xs, A.ok x) (hd : A.dep ≤ 63 := by decide) : oIn (A.enc a) (.lst (xs.map A.enc)) = some (.bl (decide (a ∈ xs))) := by
  unfold oIn
  show (if _ then _ else _) = _
  cases hf : A.flt with
  | true => rw [if_pos ⟨(A.flat a).trans hf, A.all_flat hf xs⟩, A.any_feq hf]
  | false =>
    rw [if_neg (fun z => by have := z.1; rw [A.flat, hf] at this; cases this), if_pos ⟨A.shaped ha (by omega), (L A).shaped (a := xs) hx (by show A.dep + 1 ≤ 64; omega)⟩, A.any_eqv]
theorem notInL {a : α} {xs : List α} (ha : A.ok a) (hx : ∀ x ∈ xs, A.ok x) (hd : A.dep ≤ 63 := by decide) : oNotIn (A.enc a) (.lst (xs.map A.enc)) = some (.bl (!decide (a ∈ xs))) := by
  unfold oNotIn
  show (if _ then _ else _) = _
  cases hf : A.flt with
  | true => rw [if_pos ⟨(A.flat a).trans hf, A.all_flat hf xs⟩, A.any_feq hf]
  | false =>
    rw [if_neg (fun z => by have := z.1; rw [A.flat, hf] at this; cases this), if_pos ⟨A.shaped ha (by omega), (L A).shaped (a := xs) hx (by show A.dep + 1 ≤ 64; omega)⟩, A.any_eqv]
end
end Enc
end FD
namespace G01
open PySem PySem.Spec PyProof.Rows L2 FD FD.FD9
theorem forS_exM {S : Type} (Γ : S → List T) (P : S → Prop) (ok : D → Prop) {g : D → List T → Option (List T)} {b : List T → Option O} (hb : ∀ s d, ok d → P s → ∃ s', (g d (Γ s)).bind b = some (.nx (Γ s')) ∧ P s') :
    ∀ ds s, (∀ d ∈ ds, ok d) → P s → ∃ s', forS g b ds (Γ s) = some (.nx (Γ s')) ∧ P s'
  | [], s, _, h => ⟨s, rfl, h⟩
  | d :: ds, s, hd, h => by
    obtain ⟨s1, e1, p1⟩ := hb s d (hd d (by simp)) h
    obtain ⟨s2, e2, p2⟩ := forS_exM Γ P ok hb ds s1 (fun d m => hd d (by simp [m])) p1
    refine ⟨s2, ?_, p2⟩
    unfold forS
    obtain ⟨γ1, g1, g2⟩ := Option.bind_eq_some_iff.mp e1
    rw [g1, Option.bind_some, g2, Option.bind_some]
    exact e2
theorem cut40 (ns : List Int) : FD.cutD (ns.map D.int) none (some 40) = (ns.map D.int).take 40 := by
  unfold FD.cutD
  have h1 : HT.sIx (ns.map D.int).length 0 none = 0 := rfl
  have h2 : HT.sIx (ns.map D.int).length (ns.map D.int).length (some 40) = min 40 ns.length := by
    simp [HT.sIx]
  rw [h1, h2]
  show ((ns.map D.int).drop 0).take (min 40 ns.length - 0) = _
  rw [List.drop_zero, Nat.sub_zero]
  by_cases h : 40 ≤ ns.length
  · rw [Nat.min_eq_left h]
  · rw [Nat.min_eq_right (by omega), List.take_of_length_le (by simp), List.take_of_length_le (by simp; omega)]
/-- what an enumerated number is -/
def okE (d : D) : Prop := ∃ (k : Nat) (i : Int), d = .tup [.int (k : Nat), .int i] ∧ k < 40
theorem okE_all (ns : List Int) : ∀ d ∈ enumD ((ns.map D.int).take 40), okE d := fun d hd => by
  rw [← List.map_take] at hd
  unfold enumD at hd
  obtain ⟨⟨x, k⟩, h1, rfl⟩ := List.mem_map.mp hd
  have h2 := List.mem_zipIdx h1
  have h3 : x ∈ (ns.take 40).map D.int := by rw [h2.2.2]; exact List.getElem_mem _
  obtain ⟨i, _, rfl⟩ := List.mem_map.mp h3
  refine ⟨k, i, rfl, ?_⟩
  have := h2.2.1
  simp at this
  omega
structure Bs where
  v : Int
  t4 : T
  t5 : T
theorem bag_ex {ns : List Int} {at_ : Int} (cl : Nat → Addr) (hz : ns.length ≤ 63) (h0 : 0 ≤ at_) (h1 : at_ ≤ 100) : ∃ s, okB s ∧ f_law_bag cl [.d (.lst (ns.map .int)), .d (.int at_)] = some (.ret (bg s) [.d (.lst (ns.map .int)), .d (.int at_)]) := by
  have hcell : ∃ c : Int, (pIf (pTest (pOp oLt (pVar 1) (pUn oLen (pVar 0)))) (pOp oIx (pVar 0) (pVar 1)) (pC (.int 0))) [.d (.lst (ns.map .int)), .d (.int at_), .em, .em, .em, .em] = some (.int c) := by
    by_cases hc : at_ < (ns.length : Nat)
    · obtain ⟨n, rfl⟩ := Int.eq_ofNat_of_zero_le h0
      have hn : n < ns.length := by omega
      refine ⟨ns[n], ?_⟩
      have e : atI (ns.map D.int) (n : Int) = some (D.int ns[n]) := atI_nat (by simp [hn])
      simp [hn, e]
    · exact ⟨0, by simp; omega⟩
  obtain ⟨c, hc⟩ := hcell
  obtain ⟨x, e1, p1⟩ := forS_exM (S := Bs) (fun x => [.d (.lst (ns.map .int)), .d (.int at_), .d (.int c), .d (.int x.v), x.t4, x.t5]) (fun x => 0 ≤ x.v ∧ x.v < 2147483563) okE (g := (gTp 2 (gCn (gN 4) (gCn (gN 5) gNl)))) (b := (sAsgD 3 (eP (pOp oMod (pUn oInt (pOp oAdd (pOp oAdd (pOp oAdd (pOp oMul (pVar 3) (pC (.int 50021))) (pOp oMod (pUn oInt (pVar 5)) (pC (.int 2147483563)))) (pOp oMul (pC (.int 37)) (pVar 4))) (pC (.int 5)))) (pC (.int 2147483563)))))) (fun x d hd hp => by
    obtain ⟨v, t4, t5⟩ := x
    obtain ⟨q1, q2⟩ := hp
    obtain ⟨k, i, rfl, hk⟩ := hd
    have m1 : mulOk v 50021 := lgMul ⟨by simp only at q1; omega, by simp only at q2; omega⟩ ⟨by decide, by decide⟩
    have m2 : mulOk 37 (k : Int) := lgMul ⟨by decide, by decide⟩ ⟨by omega, by omega⟩
    refine ⟨⟨(v * 50021 + i % 2147483563 + 37 * (k : Int) + 5) % 2147483563, .d (.int k), .d (.int i)⟩, ?_, Int.emod_nonneg _ (by decide), Int.emod_lt_of_pos _ (by decide)⟩
    simp [m1, m2]) (enumD ((ns.map D.int).take 40)) ⟨7129 * at_ + 613, .em, .em⟩ (okE_all ns) ⟨by show 0 ≤ 7129 * at_ + 613; omega, by show 7129 * at_ + 613 < 2147483563; omega⟩
  dsimp only at e1
  have m3 : mulOk 7129 at_ := lgMul ⟨by decide, by decide⟩ ⟨by omega, by omega⟩
  refine ⟨(if 1000000000000000000 ≤ (if c < 0 then -c else c) then (if c < 0 then -c else c) else 0, x.v), ⟨?_, p1.1, p1.2⟩, ?_⟩
  · show 0 ≤ (if 1000000000000000000 ≤ (if c < 0 then -c else c) then (if c < 0 then -c else c) else 0 : Int)
    split
    · split <;> omega
    · omega
  · simp at hc
    have hif : ∀ a : Int, (if 1000000000000000000 ≤ a then some (D.int a) else some (D.int 0)) = some (D.int (if 1000000000000000000 ≤ a then a else 0)) := fun a => by split <;> rfl
    simp [hif, (by decide : 2 ≤ sizeLine), f_law_bag, b_law_bag, hc, m3, cut40, e1, bg, postP]
end G01
namespace G21
open PySem PySem.Spec PyProof.Rows L2 FD FD.FD9
open G01 (wd forS_exM)
abbrev Bg := Int × Int
def okB (s : Bg) : Prop := 0 ≤ s.1 ∧ 0 ≤ s.2 ∧ s.2 < 2147483587
abbrev bt (s : Bg) : T := .lst [.int s.1, .int s.2]
abbrev bg := bt
theorem takeN (cl : Nat → Addr) {s : Bg} {n : Int} (h : okB s) (h0 : 0 < n) (hl : dvOk n) : ∃ (k : Nat) (s' : Bg), (k : Int) < n ∧ okB s' ∧ f_law_take cl [bt s, .d (.int n)] = some (.ret (.d (.int (k : Int))) [bt s', .d (.int n)]) := by
  obtain ⟨a, b⟩ := s
  obtain ⟨h1, h2, h3⟩ := h
  by_cases ha : 0 < a
  · obtain ⟨k, hk⟩ := Int.eq_ofNat_of_zero_le (Int.emod_nonneg a (show n ≠ 0 by omega))
    have := Int.emod_lt_of_pos a h0
    refine ⟨k, (a / n, b), by omega, ⟨Int.ediv_nonneg h1 (by omega), h2, h3⟩, ?_⟩
    rw [← hk]
    simp [f_law_take, b_law_take, ha, h0, hl, ixN]
  · have m1 : mulOk b 39373 := lgMul ⟨by simp only at h2; omega, by simp only at h3; omega⟩ ⟨by decide, by decide⟩
    have m2 : mulOk ((b * 39373 + 7121) % 2147483587 / 23) 30269 := lgMul ⟨by omega, by omega⟩ ⟨by decide, by decide⟩
    obtain ⟨k, hk⟩ := Int.eq_ofNat_of_zero_le (Int.emod_nonneg (((b * 39373 + 7121) % 2147483587 / 23 * 30269) % 2147483549 / 61) (show n ≠ 0 by omega))
    have := Int.emod_lt_of_pos (((b * 39373 + 7121) % 2147483587 / 23 * 30269) % 2147483549 / 61) h0
    refine ⟨k, (a, (b * 39373 + 7121) % 2147483587), by omega, ⟨h1, Int.emod_nonneg _ (by decide), Int.emod_lt_of_pos _ (by decide)⟩, ?_⟩
    rw [← hk]
    simp [f_law_take, b_law_take, ha, h0, hl, ixN, m1, m2]
theorem cut63 (ns : List Int) : FD.cutD (ns.map D.int) none (some 63) = (ns.map D.int).take 63 := by
  unfold FD.cutD
  have h1 : HT.sIx (ns.map D.int).length 0 none = 0 := rfl
  have h2 : HT.sIx (ns.map D.int).length (ns.map D.int).length (some 63) = min 63 ns.length := by
    simp [HT.sIx]
  rw [h1, h2]
  show ((ns.map D.int).drop 0).take (min 63 ns.length - 0) = _
  rw [List.drop_zero, Nat.sub_zero]
  by_cases h : 63 ≤ ns.length
  · rw [Nat.min_eq_left h]
  · rw [Nat.min_eq_right (by omega), List.take_of_length_le (by simp), List.take_of_length_le (by simp; omega)]
/-- what an enumerated number is -/
def okE (d : D) : Prop := ∃ (k : Nat) (i : Int), d = .tup [.int (k : Nat), .int i] ∧ k < 63
theorem okE_all (ns : List Int) : ∀ d ∈ enumD ((ns.map D.int).take 63), okE d := fun d hd => by
  rw [← List.map_take] at hd
  unfold enumD at hd
  obtain ⟨⟨x, k⟩, h1, rfl⟩ := List.mem_map.mp hd
  have h2 := List.mem_zipIdx h1
  have h3 : x ∈ (ns.take 63).map D.int := by rw [h2.2.2]; exact List.getElem_mem _
  obtain ⟨i, _, rfl⟩ := List.mem_map.mp h3
  refine ⟨k, i, rfl, ?_⟩
  have := h2.2.1
  simp at this
  omega
structure Bs where
  v : Int
  t4 : T
  t5 : T
theorem bag_ex {ns : List Int} {at_ : Int} (cl : Nat → Addr) (hz : ns.length ≤ 63) (h0 : 0 ≤ at_) (h1 : at_ ≤ 100) : ∃ s, okB s ∧ f_law_bag cl [.d (.lst (ns.map .int)), .d (.int at_)] = some (.ret (bg s) [.d (.lst (ns.map .int)), .d (.int at_)]) := by
  have hcell : ∃ c : Int, (pIf (pTest (pOp oLt (pVar 1) (pUn oLen (pVar 0)))) (pOp oIx (pVar 0) (pVar 1)) (pC (.int 0))) [.d (.lst (ns.map .int)), .d (.int at_), .em, .em, .em, .em] = some (.int c) := by
    by_cases hc : at_ < (ns.length : Nat)
    · obtain ⟨n, rfl⟩ := Int.eq_ofNat_of_zero_le h0
      have hn : n < ns.length := by omega
      refine ⟨ns[n], ?_⟩
      have e : atI (ns.map D.int) (n : Int) = some (D.int ns[n]) := atI_nat (by simp [hn])
      simp [hn, e]
    · exact ⟨0, by simp; omega⟩
  obtain ⟨c, hc⟩ := hcell
  obtain ⟨x, e1, p1⟩ := forS_exM (S := Bs) (fun x => [.d (.lst (ns.map .int)), .d (.int at_), .d (.int c), .d (.int x.v), x.t4, x.t5]) (fun x => 0 ≤ x.v ∧ x.v < 2147483563) okE (g := (gTp 2 (gCn (gN 4) (gCn (gN 5) gNl)))) (b := (sAsgD 3 (eP (pOp oMod (pUn oInt (pOp oAdd (pOp oAdd (pOp oAdd (pOp oMul (pVar 3) (pC (.int 48611))) (pOp oMod (pUn oInt (pVar 5)) (pC (.int 2147483543)))) (pOp oMul (pC (.int 271)) (pVar 4))) (pC (.int 29)))) (pC (.int 2147483563)))))) (fun x d hd hp => by
    obtain ⟨v, t4, t5⟩ := x
    obtain ⟨q1, q2⟩ := hp
    obtain ⟨k, i, rfl, hk⟩ := hd
    have m1 : mulOk v 48611 := lgMul ⟨by simp only at q1; omega, by simp only at q2; omega⟩ ⟨by decide, by decide⟩
    have m2 : mulOk 271 (k : Int) := lgMul ⟨by decide, by decide⟩ ⟨by omega, by omega⟩
    refine ⟨⟨(v * 48611 + i % 2147483543 + 271 * (k : Int) + 29) % 2147483563, .d (.int k), .d (.int i)⟩, ?_, Int.emod_nonneg _ (by decide), Int.emod_lt_of_pos _ (by decide)⟩
    simp [m1, m2]) (enumD ((ns.map D.int).take 63)) ⟨7919 * at_ + 1301, .em, .em⟩ (okE_all ns) ⟨by show 0 ≤ 7919 * at_ + 1301; omega, by show 7919 * at_ + 1301 < 2147483563; omega⟩
  dsimp only at e1
  have m3 : mulOk 7919 at_ := lgMul ⟨by decide, by decide⟩ ⟨by omega, by omega⟩
  refine ⟨(if 1000000000000000000 ≤ (if c < 0 then -c else c) then (if c < 0 then -c else c) else 0, x.v), ⟨?_, p1.1, by have := p1.2; omega⟩, ?_⟩
  · show 0 ≤ (if 1000000000000000000 ≤ (if c < 0 then -c else c) then (if c < 0 then -c else c) else 0 : Int)
    split
    · split <;> omega
    · omega
  · simp at hc
    have hif : ∀ a : Int, (if 1000000000000000000 ≤ a then some (D.int a) else some (D.int 0)) = some (D.int (if 1000000000000000000 ≤ a then a else 0)) := fun a => by split <;> rfl
    simp [hif, (by decide : 2 ≤ sizeLine), f_law_bag, b_law_bag, hc, m3, cut63, e1, bg, postP]
end G21
namespace G21
open PySem PySem.Spec PyProof.Rows L2 FD FD.FDW
open G01 (wd wd_inj nL nL_len isL isL_all wL wL_len oJoin_one abc)
theorem big : (100000 : Nat) ≤ sizeLine := by decide
theorem atI_get {α : Type} {xs : List α} {i : Nat} (h : i < xs.length) : atI xs (i : Int) = some xs[i] := atI_nat (by simp [h])
theorem ofN (cl : Nat → Addr) {s : Bg} {ds : List D} (h : okB s) (h0 : ds ≠ []) (h1 : ds.length ≤ 1000) : ∃ (i : Nat) (s' : Bg) (hi : i < ds.length), okB s' ∧ f_law_of cl [bt s, .d (.lst ds)] = some (.ret (.d ds[i]) [bt s', .d (.lst ds)]) := by
  have hp : 0 < ds.length := List.length_pos_iff.mpr h0
  obtain ⟨k, s1, k1, o1, e1⟩ := takeN cl (n := (ds.length : Nat)) h (by omega) (dvOk_s (by omega) (by omega))
  have hk : k < ds.length := by omega
  refine ⟨k, s1, hk, o1, Ok.eq ?_⟩
  unfold f_law_of
  simp [b_law_of, e1, atI_get hk]
/-- the letters by their places -/
def ltr (i : Nat) : Nat := 97 + i % 26
theorem ltr_at {i : Nat} (h : i < 26) : atI (("abcdefghijklmnopqrstuvwxyz" : Str).cps.toList) (i : Int) = some (ltr i) := by
  have key : ∀ n ∈ List.range 26, (atI (("abcdefghijklmnopqrstuvwxyz" : Str).cps.toList) ((n : Nat) : Int)) = some (ltr n) := by decide +kernel
  exact key i (List.mem_range.mpr h)
def endL (b : Bool) (base : List Nat) (c : Nat) : List Nat := if b then base ++ [c] else c :: base
theorem endL_inj {b : Bool} {base : List Nat} {c d : Nat} (h : endL b base c = endL b base d) : c = d := by
  unfold endL at h
  cases b
  · simpa using h
  · simpa using h
theorem intsD_len (a : Int) (n : Nat) : (intsD a n).length = n := by simp [intsD]
/-- a state that is told by its bag -/
def InvB (mk : Bg → List T) (γ : List T) : Prop := ∃ s, okB s ∧ γ = mk s
theorem InvB.of {mk : Bg → List T} {s : Bg} (h : okB s) : InvB mk (mk s) := ⟨s, h, rfl⟩
def NmP (k : Nat) (o : RF) : Prop := ∃ (ws : List (List Nat)) (s' : Bg), ws.length = k ∧ ws.Nodup ∧ (∀ w ∈ ws, G01.okW w) ∧ okB s' ∧ o = .ret (.lst (nL ws)) [bt s', .d (.int (k : Nat))]
theorem names_ex (cl : Nat → Addr) {s : Bg} {k : Nat} (h : okB s) (hk : k ≤ 6) : Ok (f_law_names cl [bt s, .d (.int (k : Nat))]) (NmP k) := by
  have hb := big
  have z4 : 4 ≤ sizeLine := by omega
  have z2 : 2 ≤ sizeLine := by omega
  have z26 : (Str.ofString "abcdefghijklmnopqrstuvwxyz").length ≤ sizeLine := by decide
  obtain ⟨i, s1, hi, o1, e1⟩ := ofN cl (ds := [.int 0, .int 0, .int 2, .int 7]) h (by simp) (by simp)
  have hi4 : i < 4 := by simpa using hi
  obtain ⟨n, hn, en⟩ : ∃ n : Nat, n ≤ 7 ∧ ([D.int 0, .int 0, .int 2, .int 7] : List D)[i] = .int (n : Int) := by
    have : i = 0 ∨ i = 1 ∨ i = 2 ∨ i = 3 := by omega
    rcases this with rfl | rfl | rfl | rfl
    · exact ⟨0, by omega, rfl⟩
    · exact ⟨0, by omega, rfl⟩
    · exact ⟨2, by omega, rfl⟩
    · exact ⟨7, by omega, rfl⟩
  rw [en] at e1
  have a0 : ∀ Q : O → Prop, (∀ (cs : List Nat) (s2 : Bg), cs.length ≤ 7 → (∀ c ∈ cs, 97 ≤ c ∧ c ≤ 122) → okB s2 → Q (.nx [bt s2, .d (.int (k : Nat)), .d (.str "abcdefghijklmnopqrstuvwxyz"), .d (.str (wd cs)), .em, .em, .em, .em, .em])) →
      Ok ((sAsgD 3 (eJoin (pC (.str "")) (eLc [7] (iR1E (eCall (f_law_of cl) [some 0, none] (aBor 0 (aCons (eP (pLst (pCons (pC (.int 0)) (pCons (pC (.int 0)) (pCons (pC (.int 2)) (pCons (pC (.int 7)) pNil)))))) aNil)))) (gN 7) (eT bYes) (eOp [none, none] oIx (aCons (eP (pVar 2)) (aCons (eCall (f_law_take cl) [some 0, none] (aBor 0 (aCons (eP (pC (.int 26))) aNil))) aNil)))))) [bt s, .d (.int (k : Nat)), .d (.str "abcdefghijklmnopqrstuvwxyz"), .em, .em, .em, .em, .em, .em]) Q := fun Q hQ => by
    have hr1 : -4611686018427387904 ≤ (n : Int) ∧ (n : Int) < 4611686018427387904 := by omega
    have hr2 : n < sizeLine := by omega
    have loop : Ok (lcE [7] (gN 7) (eT bYes) (eOp [none, none] oIx (aCons (eP (pVar 2)) (aCons (eCall (f_law_take cl) [some 0, none] (aBor 0 (aCons (eP (pC (.int 26))) aNil))) aNil))) (intsD 0 n) [bt s1, .d (.int (k : Nat)), .d (.str "abcdefghijklmnopqrstuvwxyz"), .em, .em, .em, .em, .em, .em]) fun q => ∃ (cs : List Nat) (s2 : Bg), q = (wL cs, [bt s2, .d (.int (k : Nat)), .d (.str "abcdefghijklmnopqrstuvwxyz"), .em, .em, .em, .em, .em, .em]) ∧ cs.length ≤ 7 ∧ (∀ c ∈ cs, 97 ≤ c ∧ c ≤ 122) ∧ okB s2 := by
      unfold intsD
      refine ok_lcE (InvB fun s2 => [bt s2, .d (.int (k : Nat)), .d (.str "abcdefghijklmnopqrstuvwxyz"), .em, .em, .em, .em, .em, .em]) (fun _ y => isL y) _ _ (InvB.of (mk := fun s2 => [bt s2, .d (.int (k : Nat)), .d (.str "abcdefghijklmnopqrstuvwxyz"), .em, .em, .em, .em, .em, .em]) o1) ?_ ?_
      · rintro x hx γ ⟨s2, o2, rfl⟩
        obtain ⟨j, s3, j1, o3, e3⟩ := takeN cl (n := 26) o2 (by decide) (by decide)
        have hj : j < 26 := by omega
        simp [e3, z26, ltr_at hj]
        exact ⟨⟨ltr j, rfl, by unfold ltr; omega, by unfold ltr; omega⟩, InvB.of (mk := fun s2 => [bt s2, .d (.int (k : Nat)), .d (.str "abcdefghijklmnopqrstuvwxyz"), .em, .em, .em, .em, .em, .em]) o3⟩
      · rintro ys γ hl hR ⟨s2, o2, rfl⟩
        obtain ⟨cs, rfl, h2, h3⟩ := isL_all (ys := ys) (fun y hy => by
          obtain ⟨i, hi, rfl⟩ := List.getElem_of_mem hy
          exact hR i (by rw [← hl]; exact hi) hi)
        rw [List.length_range] at hl
        exact ⟨cs, s2, rfl, by rw [← wL_len]; omega, h3, o2⟩
    obtain ⟨q, eq, cs, s2, rfl, c1, c2, o2⟩ := loop
    simp [e1, z4, hr1, hr2, intsD_len, eq]
    simp [oJoin_one (cs := cs) (by omega)]
    exact hQ cs s2 c1 c2 o2
  unfold f_law_names
  rw [ok_fnF, ok_iteN]
  refine ⟨⟨rfl, rfl⟩, ?_⟩
  rw [ok_bind]
  unfold b_law_names
  refine ok_seq (γ' := [bt s, .d (.int (k : Nat)), .d (.str "abcdefghijklmnopqrstuvwxyz"), .em, .em, .em, .em, .em, .em]) (Ok.eq (by simp)) ?_
  refine ok_seqP (P := fun o => ∃ (cs : List Nat) (s2 : Bg), cs.length ≤ 7 ∧ (∀ c ∈ cs, 97 ≤ c ∧ c ≤ 122) ∧ okB s2 ∧ o = (.nx [bt s2, .d (.int (k : Nat)), .d (.str "abcdefghijklmnopqrstuvwxyz"), .d (.str (wd cs)), .em, .em, .em, .em, .em])) (a0 _ fun cs s2 h1 h2 h3 => ⟨cs, s2, h1, h2, h3, rfl⟩) ?_
  rintro o ⟨cs, s2, c1, c2, o2, rfl⟩
  refine ⟨_, rfl, ?_⟩
  obtain ⟨a, s3, ha, o3, e3⟩ := takeN cl (n := 26) o2 (by decide) (by decide)
  obtain ⟨b, s4, hb2, o4, e4⟩ := takeN cl (n := 2) o3 (by decide) (by decide)
  refine ok_seq (γ' := [bt s4, .d (.int (k : Nat)), .d (.str "abcdefghijklmnopqrstuvwxyz"), .d (.str (wd cs)), .d (.int (a : Int)), .d (.int (b : Int)), .em, .em, .em]) (Ok.eq (by simp [e3, e4, z2])) ?_
  have hr1 : -4611686018427387904 ≤ (k : Int) ∧ (k : Int) < 4611686018427387904 := by omega
  have l1 : lcP (gN 7) bYes (pOp oIx (pVar 2) (pOp oMod (pOp oAdd (pVar 4) (pOp oMul (pC (.int 7)) (pVar 7))) (pC (.int 26)))) [bt s4, .d (.int (k : Nat)), .d (.str "abcdefghijklmnopqrstuvwxyz"), .d (.str (wd cs)), .d (.int (a : Int)), .d (.int (b : Int)), .em, .em, .em] (intsD 0 k) = some ((List.range k).map fun j => D.str (wd [ltr (a + 7 * j)])) := by
    unfold intsD
    refine Ok.eq (ok_lcM (fun j : Nat => D.str (wd [ltr (a + 7 * j)])) (fun j hj => ?_) rfl)
    have hj6 := List.mem_range.mp hj
    have m1 : mulOk 7 (j : Int) := lgMul ⟨by decide, by decide⟩ ⟨by omega, by omega⟩
    have em : ((a : Int) + 7 * (j : Int)) % 26 = (((a + 7 * j) % 26 : Nat) : Int) := by omega
    have hl : ltr ((a + 7 * j) % 26) = ltr (a + 7 * j) := by unfold ltr; omega
    have key : oIx (.str "abcdefghijklmnopqrstuvwxyz") (.int (((a : Int) + 7 * (j : Int)) % 26)) = some (.str (wd [ltr (a + 7 * j)])) := by
      rw [em, oIx_s, if_pos z26, ltr_at (i := (a + 7 * j) % 26) (by omega), hl]
      rfl
    simp [-oIx_s, m1]
    exact Ok.of key rfl
  refine ok_seq (γ' := [bt s4, .d (.int (k : Nat)), .d (.str "abcdefghijklmnopqrstuvwxyz"), .d (.str (wd cs)), .d (.int (a : Int)), .d (.int (b : Int)), .d (.lst ((List.range k).map fun j => D.str (wd [ltr (a + 7 * j)]))), .em, .em]) (Ok.eq ?_) ?_
  · have hr2 : k < sizeLine := by omega
    simp [-List.map_map, hr1, hr2, l1, intsD_len]
  have hbb : b = 0 ∨ b = 1 := by omega
  have l2 : lcP (gN 8) bYes (pIf (bTi (pVar 5)) (pOp oAdd (pVar 3) (pVar 8)) (pOp oAdd (pVar 8) (pVar 3))) [bt s4, .d (.int (k : Nat)), .d (.str "abcdefghijklmnopqrstuvwxyz"), .d (.str (wd cs)), .d (.int (a : Int)), .d (.int (b : Int)), .d (.lst ((List.range k).map fun j => D.str (wd [ltr (a + 7 * j)]))), .em, .em] ((List.range k).map fun j => D.str (wd [ltr (a + 7 * j)])) = some (nL ((List.range k).map fun j => endL (decide (b = 1)) cs (ltr (a + 7 * j)))) := by
    refine Ok.eq (ok_lcM (fun j : Nat => D.str (wd (endL (decide (b = 1)) cs (ltr (a + 7 * j))))) (fun j hj => ?_) (by simp [nL]))
    have l1 : (wd cs).length = cs.length := by simp [wd, Str.length]
    have l2 : (wd [ltr (a + 7 * j)]).length = 1 := rfl
    have hz : (wd cs).length + 1 ≤ sizeLine := by rw [l1]; omega
    have hz' : 1 + (wd cs).length ≤ sizeLine := by rw [l1]; omega
    rcases hbb with rfl | rfl
    · simp [bTi, l2, hz', G01.str_app, endL]
    · simp [bTi, l2, hz, G01.str_app, endL]
  refine Ok.of (a := .rt (.lst (nL ((List.range k).map fun j => endL (decide (b = 1)) cs (ltr (a + 7 * j))))) [bt s4, .d (.int (k : Nat)), .d (.str "abcdefghijklmnopqrstuvwxyz"), .d (.str (wd cs)), .d (.int (a : Int)), .d (.int (b : Int)), .d (.lst ((List.range k).map fun j => D.str (wd [ltr (a + 7 * j)]))), .em, .em]) (Ok.eq ?_) ?_
  · have hr2 : k < sizeLine := by omega
    simp [-List.map_map, hr2, l2]
  · simp
    refine ⟨_, s4, by simp, ?_, ?_, o4, rfl⟩
    · unfold List.Nodup
      rw [List.pairwise_map]
      refine (List.nodup_range (n := k)).imp_of_mem fun {x y} hx hy hxy e => hxy ?_
      have := endL_inj e
      have hx := List.mem_range.mp hx
      have hy := List.mem_range.mp hy
      unfold ltr at this
      omega
    · intro w hw
      obtain ⟨j, hj, rfl⟩ := List.mem_map.mp hw
      have hc : 97 ≤ ltr (a + 7 * j) ∧ ltr (a + 7 * j) ≤ 122 := by unfold ltr; omega
      unfold endL
      split
      · refine ⟨by simp, by simp; omega, fun c hc' => ?_⟩
        rcases List.mem_append.mp hc' with q | q
        · exact c2 c q
        · rw [List.mem_singleton.mp q]; exact hc
      · refine ⟨by simp, by simp; omega, fun c hc' => ?_⟩
        rcases List.mem_cons.mp hc' with q | q
        · rw [q]; exact hc
        · exact c2 c q
end G21
namespace FD
open PySem PySem.Spec PyProof.Rows L2
section
variable {κ β : Type} [DecidableEq κ]
def dKs (ke : κ → Key) (e : List (κ × β)) : List Key := e.map fun p => ke p.1
def dDs (de : β → D) (e : List (κ × β)) : List D := e.map fun p => de p.2
def dTs (te : β → T) (e : List (κ × β)) : List T := e.map fun p => te p.2
def dLk (e : List (κ × β)) (k : κ) : Option β := e.lookup k
def dPt (e : List (κ × β)) (k : κ) (v : β) : List (κ × β) := if k ∈ e.map (·.1) then e.map (fun p => if p.1 = k then (p.1, v) else p) else e ++ [(k, v)]
variable {ke : κ → Key} (inj : ∀ a b, ke a = ke b → a = b)
include inj
theorem hasK_d (e : List (κ × β)) (k : κ) [inst : Decidable (k ∈ e.map (·.1))] : hasK (dKs ke e) (ke k) = decide (k ∈ e.map (·.1)) := by
  rw [Bool.eq_iff_iff, decide_eq_true_iff]
  unfold hasK dKs
  clear inst
  induction e with
  | nil => simp
  | cons p e ih =>
    rw [List.map_cons, List.any_cons, Bool.or_eq_true, ih, decide_eq_true_iff, List.map_cons, List.mem_cons]
    refine or_congr_left ⟨fun h => (inj _ _ h).symm, fun h => by rw [h]⟩
theorem atK_d (de : β → D) (e : List (κ × β)) (k : κ) : atK (dKs ke e) (dDs de e) (ke k) = (dLk e k).map de := by
  unfold dLk
  induction e with
  | nil => rfl
  | cons p e ih =>
    show (if ke p.1 = ke k then some (de p.2) else atK (dKs ke e) (dDs de e) (ke k)) = _
    by_cases h : p.1 = k
    · subst h
      rw [if_pos rfl, List.lookup_cons, show (p.1 == p.1) = true from beq_iff_eq.mpr rfl]
      rfl
    · rw [if_neg fun z => h (inj _ _ z), ih]
      have : (k == p.1) = false := beq_eq_false_iff_ne.mpr fun z => h z.symm
      rw [List.lookup_cons, this]
theorem repT_d (te : β → T) (e : List (κ × β)) (k : κ) (v : β) : repT (dKs ke e) (dTs te e) (ke k) (te v) = dTs te (e.map fun p => if p.1 = k then (p.1, v) else p) := by
  induction e with
  | nil => rfl
  | cons p e ih =>
    show (if ke p.1 = ke k then te v else te p.2) :: repT (dKs ke e) (dTs te e) (ke k) (te v) = _
    rw [ih]
    by_cases h : p.1 = k
    · rw [if_pos (by rw [h])]
      simp [dTs, h]
    · rw [if_neg fun z => h (inj _ _ z)]
      simp [dTs, h]
theorem putKs_d (e : List (κ × β)) (k : κ) (v : β) : putKs (dKs ke e) (ke k) = dKs ke (dPt e k v) := by
  unfold putKs dPt
  rw [hasK_d inj]
  by_cases h : k ∈ e.map (·.1)
  · rw [if_pos (by simpa using h), if_pos h]
    unfold dKs
    rw [List.map_map]
    exact List.map_congr_left fun p _ => by simp only [Function.comp]; split <;> rfl
  · rw [if_neg (by simpa using h), if_neg h]
    simp [dKs]
theorem putTsK_d (te : β → T) (e : List (κ × β)) (k : κ) (v : β) : putTsK (dKs ke e) (dTs te e) (ke k) (te v) = dTs te (dPt e k v) := by
  unfold putTsK dPt
  rw [hasK_d inj]
  by_cases h : k ∈ e.map (·.1)
  · rw [if_pos (by simpa using h), if_pos h, repT_d inj]
  · rw [if_neg (by simpa using h), if_neg h]
    simp [dTs]
omit inj
theorem keys_dPt (e : List (κ × β)) (k : κ) (v : β) : (dPt e k v).map (·.1) = if k ∈ e.map (·.1) then e.map (·.1) else e.map (·.1) ++ [k] := by
  unfold dPt
  by_cases h : k ∈ e.map (·.1)
  · rw [if_pos h, if_pos h, List.map_map]
    exact List.map_congr_left fun p _ => by simp only [Function.comp]; split <;> rfl
  · rw [if_neg h, if_neg h]
    simp
theorem lookup_none {e : List (κ × β)} {k : κ} : dLk e k = none ↔ k ∉ e.map (·.1) := by
  unfold dLk
  induction e with
  | nil => simp
  | cons p e ih =>
    rw [List.lookup_cons, List.map_cons, List.mem_cons, not_or]
    by_cases h : k = p.1
    · subst h; simp
    · rw [show (k == p.1) = false from beq_eq_false_iff_ne.mpr h]
      simp [h, ih]
theorem lookup_mem {e : List (κ × β)} {k : κ} {v : β} (h : dLk e k = some v) : (k, v) ∈ e := by
  unfold dLk at h
  induction e with
  | nil => simp at h
  | cons p e ih =>
    rw [List.lookup_cons] at h
    by_cases hk : k = p.1
    · subst hk
      simp at h
      subst h
      exact List.mem_cons_self
    · rw [show (k == p.1) = false from beq_eq_false_iff_ne.mpr hk] at h
      exact List.mem_cons_of_mem _ (ih h)
theorem lookup_app {e e' : List (κ × β)} {k : κ} : dLk (e ++ e') k = (dLk e k).or (dLk e' k) := by
  unfold dLk
  induction e with
  | nil => simp
  | cons p e ih =>
    rw [List.cons_append, List.lookup_cons, List.lookup_cons]
    split
    · rfl
    · exact ih
theorem lookup_dPt (e : List (κ × β)) (k : κ) (v : β) (j : κ) : dLk (dPt e k v) j = if j = k then some v else dLk e j := by
  unfold dPt
  by_cases h : k ∈ e.map (·.1)
  · rw [if_pos h]
    unfold dLk
    induction e with
    | nil => simp at h
    | cons p e ih =>
      rw [List.map_cons]
      by_cases hp : p.1 = k
      · rw [if_pos hp, List.lookup_cons]
        by_cases hj : j = k
        · subst hj
          simp [hp]
        · rw [show (j == (p.1, v).1) = false from beq_eq_false_iff_ne.mpr fun z => hj (z.trans hp), if_neg hj, List.lookup_cons, show (j == p.1) = false from beq_eq_false_iff_ne.mpr fun z => hj (z.trans hp)]
          simp only
          by_cases hk : k ∈ e.map (·.1)
          · rw [ih hk, if_neg hj]
          · congr 1
            rw [List.map_congr_left (g := id) fun q hq => by
              rw [if_neg fun z => hk (by rw [← z]; exact List.mem_map_of_mem hq)]; rfl]
            exact List.map_id e
      · rw [if_neg hp, List.lookup_cons, List.lookup_cons]
        have hk : k ∈ e.map (·.1) := by
          rw [List.map_cons] at h
          exact (List.mem_cons.mp h).resolve_left fun z => hp z.symm
        by_cases hj : j = p.1
        · rw [show (j == p.1) = true from beq_iff_eq.mpr hj]
          simp only
          rw [if_neg fun z => hp (hj.symm.trans z)]
        · rw [show (j == p.1) = false from beq_eq_false_iff_ne.mpr hj]
          simp only
          exact ih hk
  · rw [if_neg h, lookup_app]
    by_cases hj : j = k
    · subst hj
      rw [lookup_none.mpr h]
      simp [dLk]
    · rw [if_neg hj]
      have : dLk ([(k, v)] : List (κ × β)) j = none := by
        rw [dLk, List.lookup_cons, show (j == k) = false from beq_eq_false_iff_ne.mpr hj]
        rfl
      rw [this]
      cases dLk e j <;> rfl
theorem dTs_d (de : β → D) (e : List (κ × β)) : dTs (fun v => .d (de v)) e = (dDs de e).map .d := by simp [dTs, dDs]
theorem dKs_len (ke : κ → Key) (e : List (κ × β)) : (dKs ke e).length = e.length := by simp [dKs]
theorem dPt_len (e : List (κ × β)) (k : κ) (v : β) : (dPt e k v).length ≤ e.length + 1 := by
  unfold dPt
  split <;> simp
end
def dE (t : T) : Prop := t = .em ∨ ∃ x, t = .d x
theorem toDs_ds (ds : List D) : T.toDs (ds.map .d) = some ds := by
  induction ds with
  | nil => simp [T.toDs]
  | cons d ds ih => rw [List.map_cons, T.toDs, ih]; simp [T.toD]
theorem toD_dic_ds (ks : List Key) (ds : List D) : T.toD (.dic ks (ds.map .d)) = some (.dic ks ds) := by
  rw [T.toD, toDs_ds]; rfl
theorem top_dic_ds (ks : List Key) (ds : List D) : T.top (.dic ks (ds.map .d)) = some (.dic ks ds) := by
  show (allD (ds.map .d)).map _ = _
  rw [allD_map]; rfl
end FD
namespace G21
open PySem PySem.Spec PyProof.Rows L2 FD FD.FDW
open G01 (wd wd_inj nL nL_len)
abbrev Asc := List (List Nat × List (List Nat))
abbrev kS (w : List Nat) : Key := .inr (wd w)
theorem kS_inj : ∀ a b, kS a = kS b → a = b := fun a b h => wd_inj.mp (Sum.inr.inj h)
abbrev tN (ts : List (List Nat)) : D := .tup (nL ts)
abbrev fl : List Str := ["_standings", "_by_hand", "_by_stamps"]
abbrev dicT (e : Asc) : T := .dic (dKs kS e) (dTs (fun v => .d (tN v)) e)
abbrev dicD (e : Asc) : D := .dic (dKs kS e) (dDs tN e)
abbrev tbT (cl : Nat → Addr) (o : List (List Nat)) (e1 e2 : Asc) : T := .obj (cl 26) fl [.d (tN o), dicT e1, dicT e2]
abbrev tbD (cl : Nat → Addr) (o : List (List Nat)) (e1 e2 : Asc) : D := .ins (cl 26) fl [tN o, dicD e1, dicD e2]
def gt (e : Asc) (s : List Nat) : List (List Nat) := (dLk e s).getD []
theorem dic_toD (e : Asc) : T.toD (dicT e) = some (dicD e) := by
  show T.toD (.dic _ (dTs (fun v => .d (tN v)) e)) = _
  rw [dTs_d, toD_dic_ds]
theorem dic_top (e : Asc) : T.top (dicT e) = some (dicD e) := by
  show T.top (.dic _ (dTs (fun v => .d (tN v)) e)) = _
  rw [dTs_d, top_dic_ds]
theorem tb_toD (cl : Nat → Addr) (o : List (List Nat)) (e1 e2 : Asc) : T.toD (tbT cl o e1 e2) = some (tbD cl o e1 e2) := by
  rw [T.toD, T.toDs, T.toDs, T.toDs, T.toDs, dic_toD, dic_toD]
  simp [T.toD]
theorem get_tup (e : Asc) (s : List Nat) : (atK (dKs kS e) (dDs tN e) (.inr (wd s))).getD (.tup []) = tN (gt e s) := by
  rw [atK_d kS_inj]
  unfold gt
  cases dLk e s <;> rfl
theorem in_t (a : List Nat) (ts : List (List Nat)) : oIn (.str (wd a)) (tN ts) = some (.bl (decide (a ∈ ts))) := by
  have h := any_fEq_s (wd a) (ts.map wd)
  have f := all_flat_s (ts.map wd)
  have n : nL ts = (ts.map wd).map D.str := by simp [nL]
  show oIn _ (.tup (nL ts)) = _
  rw [n, oIn_t, if_pos ⟨rfl, f⟩, h]
  congr 2
  rw [decide_eq_decide, List.mem_map]
  exact ⟨fun ⟨b, hb, e⟩ => wd_inj.mp e ▸ hb, fun h => ⟨a, h, rfl⟩⟩
theorem those_ok (cl : Nat → Addr) {o ts : List (List Nat)} (h : o.length ≤ 1000) : f_those_in cl [.d (tN o), .d (tN ts)] = some (.ret (.d (tN (o.filter fun x => decide (x ∈ ts)))) [.d (tN o), .d (tN ts)]) := by
  have hb := big
  have e : lcP (gN 2) (pTest (pOp oIn (pVar 2) (pVar 1))) (pVar 2) [.d (tN o), .d (tN ts), .em] (nL o) = some (nL (o.filter fun x => decide (x ∈ ts))) := by
    refine Ok.eq (ok_lcP (enc := fun w => D.str (wd w)) (fun x => decide (x ∈ ts)) (fun w => D.str (wd w)) (fun x _ => ?_) rfl)
    have := in_t x ts
    simp [-oIn_t, this]
  have hz : (nL o).length < sizeLine := by rw [nL_len]; omega
  refine Ok.eq ?_
  unfold f_those_in
  simp [b_those_in, e, hz]
theorem by_hand_ok (cl : Nat → Addr) {o : List (List Nat)} {e1 e2 : Asc} (h : o.length ≤ 1000) (s : List Nat) : f_Senders_by_hand cl [.d (tbD cl o e1 e2), .d (.str (wd s))] = some (.ret (.d (tN (o.filter fun x => decide (x ∈ gt e1 s)))) [.d (tbD cl o e1 e2), .d (.str (wd s))]) := by
  have e := those_ok cl (o := o) (ts := gt e1 s) h
  have g := get_tup e1 s
  refine Ok.eq ?_
  unfold f_Senders_by_hand
  simp [b_Senders_by_hand, toK, g, e]
theorem standings_ok (cl : Nat → Addr) {o : List (List Nat)} {e1 e2 : Asc} (h : o.length ≤ 1000) (s : List Nat) (h1 : (gt e1 s).length ≤ 1000) (h2 : (gt e2 s).length ≤ 1000) : f_Senders_standings_of cl [.d (tbD cl o e1 e2), .d (.str (wd s))] = some (.ret (.d (tN (o.filter fun x => decide (x ∈ gt e1 s ++ gt e2 s)))) [.d (tbD cl o e1 e2), .d (.str (wd s))]) := by
  have hb := big
  have e := those_ok cl (o := o) (ts := gt e1 s ++ gt e2 s) h
  have g1 := get_tup e1 s
  have g2 := get_tup e2 s
  have ap : nL (gt e1 s) ++ nL (gt e2 s) = nL (gt e1 s ++ gt e2 s) := by simp [nL]
  have hz : (gt e1 s).length + (gt e2 s).length ≤ sizeLine := by omega
  refine Ok.eq ?_
  unfold f_Senders_standings_of
  simp [b_Senders_standings_of, toK, g1, g2, nL_len, hz, ap, e]
theorem contains_ok (cl : Nat → Addr) {o : List (List Nat)} {e1 e2 : Asc} (s : List Nat) : f_Senders_contains cl [.d (tbD cl o e1 e2), .d (.str (wd s))] = some (.ret (.d (.bl (decide (s ∈ e1.map (·.1)) || decide (s ∈ e2.map (·.1))))) [.d (tbD cl o e1 e2), .d (.str (wd s))]) := by
  have k1 := hasK_d kS_inj e1 s
  have k2 := hasK_d kS_inj e2 s
  refine Ok.eq ?_
  unfold f_Senders_contains
  by_cases h : s ∈ e1.map (·.1)
  · have k1' : hasK (dKs kS e1) (.inr (wd s)) = true := by rw [show (Sum.inr (wd s) : Key) = kS s from rfl, k1]; simpa using h
    have : decide (s ∈ e1.map (·.1)) = true := by simpa using h
    simp [-List.mem_map, b_Senders_contains, oDIn, toK, k1', this]
  · have k1' : hasK (dKs kS e1) (.inr (wd s)) = false := by rw [show (Sum.inr (wd s) : Key) = kS s from rfl, k1]; simpa using h
    have : decide (s ∈ e1.map (·.1)) = false := by simpa using h
    have k2' : hasK (dKs kS e2) (.inr (wd s)) = decide (s ∈ e2.map (·.1)) := k2
    simp [-List.mem_map, b_Senders_contains, oDIn, toK, k1', k2', this]
end G21
namespace G21
open PySem PySem.Spec PyProof.Rows L2 FD FD.FDW
open G01 (f_is_name)
noncomputable section
abbrev law_told_0b0 (cl : Nat → Addr) : List T → Option O := (sAsgD 5 (eP (pUn oTuple (pLc [8] (iAnyF (pVar 1)) (gN 8) (pTest (pOp oIn (pTup (pCons (pVar 4) (pCons (pVar 8) (pCons (pC (.bl true)) pNil)))) (cVar 2))) (pVar 8)))))
abbrev law_told_0b1 (cl : Nat → Addr) : List T → Option O := (sAsgD 6 (eP (pUn oTuple (pLc [8] (iAnyF (pVar 1)) (gN 8) (bOr (pTest (pOp oIn (pTup (pCons (pVar 4) (pCons (pVar 8) (pCons (pC (.bl true)) pNil)))) (cVar 2))) (pTest (pOp oIn (pTup (pCons (pVar 4) (pCons (pVar 8) (pCons (pC (.bl false)) pNil)))) (cVar 2)))) (pVar 8)))))
abbrev law_told_0b2 (cl : Nat → Addr) : List T → Option O := (sIf (eT (bWith 0 (bOr (pTest (pOp oNe (pMeth (cl 26) ["_standings", "_by_hand", "_by_stamps"] (f_Senders_by_hand cl) (pVar 0) (pCons (pVar 4) pNil)) (pVar 5))) (pTest (pOp oNe (pMeth (cl 26) ["_standings", "_by_hand", "_by_stamps"] (f_Senders_standings_of cl) (pVar 0) (pCons (pVar 4) pNil)) (pVar 6)))))) (sRet (eP (pC (.bl false)))) sNext)
abbrev law_told_0b3 (cl : Nat → Addr) : List T → Option O := (sIf (eT (bWith 0 (bOr (bNot (pTest (pOp oIsi2 (pMeth (cl 26) ["_standings", "_by_hand", "_by_stamps"] (f_Senders_by_hand cl) (pVar 0) (pCons (pVar 4) pNil)) (pC (.raw (.ty "tuple")))))) (bNot (pTest (pOp oIsi2 (pMeth (cl 26) ["_standings", "_by_hand", "_by_stamps"] (f_Senders_standings_of cl) (pVar 0) (pCons (pVar 4) pNil)) (pC (.raw (.ty "tuple"))))))))) (sRet (eP (pC (.bl false)))) sNext)
abbrev law_told_0b4 (cl : Nat → Addr) : List T → Option O := (sIf (eT (bWith 0 (pTest (pOp oNe (pOp (oInOwn (cl 26) (f_Senders_contains cl)) (pVar 4) (pVar 0)) (pOp oNe (pVar 6) (pTup pNil)))))) (sRet (eP (pC (.bl false)))) sNext)
abbrev law_told_0b (cl : Nat → Addr) : List T → Option O := (sSeq (law_told_0b0 cl) (sSeq (law_told_0b1 cl) (sSeq (law_told_0b2 cl) (sSeq (law_told_0b3 cl) (law_told_0b4 cl)))))
abbrev law_told_0 (cl : Nat → Addr) : List T → Option O := (sFor (iP (iAnyF (pVar 3))) (gN 4) (law_told_0b cl))
abbrev law_told_1 (cl : Nat → Addr) : List T → Option O := (sAsgD 7 (eP (pUn oSortD (pLcW [4] (iAnyF (pVar 3)) (gN 4) (pTest (pOp oNe (pLc [9] (iAnyF (cVar 2)) (gN 9) (pTest (pOp oEq (pOp oIx (pVar 9) (pC (.int 0))) (pVar 4))) (pVar 9)) (pLst pNil))) (pVar 4)))))
abbrev law_told_2 (cl : Nat → Addr) : List T → Option O := (sRet (eAndV (eP (pWith 0 (pOp oIsi2 (pMeth (cl 26) ["_standings", "_by_hand", "_by_stamps"] (f_Senders_names cl) (pVar 0) pNil) (pC (.raw (.ty "list")))))) (eAndV (eP (pWith 0 (pOp oEq (pMeth (cl 26) ["_standings", "_by_hand", "_by_stamps"] (f_Senders_names cl) (pVar 0) pNil) (pVar 7)))) (eP (pWith 0 (pOp oEq (pUn (oLenOwn (cl 26) (f_Senders_len cl)) (pVar 0)) (pUn oLen (pVar 7))))))))
abbrev law_filled_1b0 (cl : Nat → Addr) : List T → Option O := (sIf (eNot (eTest (eCall (f_law_bool cl) [none, none] (aCons (eCall (f_law_given cl) [some 0, none] (aBor 0 (aCons (eP (pVar 5)) aNil))) (aCons (eP (pOp oNotIn (pVar 5) (cVar 4))) aNil))))) (sRet (eP (pC (.bl false)))) sNext)
abbrev law_filled_1b1 (cl : Nat → Addr) : List T → Option O := (sAppV 4 (eP (pVar 5)))
abbrev law_filled_1b2 (cl : Nat → Addr) : List T → Option O := (sIf (eNot (eTest (eCall (f_law_told cl) [some 0, none, some 4, none] (aBor 0 (aCons (eP (pVar 1)) (aBor 4 (aCons (eP (pVar 3)) aNil))))))) (sRet (eP (pC (.bl false)))) sNext)
abbrev law_filled_1b (cl : Nat → Addr) : List T → Option O := (sSeq (law_filled_1b0 cl) (sSeq (law_filled_1b1 cl) (law_filled_1b2 cl)))
abbrev law_filled_1 (cl : Nat → Addr) : List T → Option O := (sFor (iAnyE (eFrz 2)) (gN 5) (law_filled_1b cl))
abbrev law_0b0 (cl : Nat → Addr) : List T → Option O := (sAsg 2 (eCall (f_law_bag cl) [none, none] (aCons (eP (pVar 0)) (aCons (eP (pVar 1)) aNil))))
abbrev law_0b1 (cl : Nat → Addr) : List T → Option O := (sAsgD 3 (eCall (f_law_names cl) [some 2, none] (aBor 2 (aCons (eP (pC (.int 5))) aNil))))
abbrev law_0b2 (cl : Nat → Addr) : List T → Option O := (sPar [4, 5, 6] (aCons (eD (eOp [none, none] oSlH (aCons (eP (pVar 3)) (aCons (eOp [none, none] oAdd (aCons (eP (pC (.int 1))) (aCons (eCall (f_law_take cl) [some 2, none] (aBor 2 (aCons (eP (pC (.int 2))) aNil))) aNil))) aNil)))) (aCons (eP (pLst pNil)) (aCons (eLst [] aNil) aNil))))
abbrev law_0b3 (cl : Nat → Addr) : List T → Option O := (sIf (eTest (eOp [none, none] oEq (aCons (eCall (f_law_take cl) [some 2, none] (aBor 2 (aCons (eP (pC (.int 2))) aNil))) (aCons (eP (pC (.int 1))) aNil)))) (sAsgD 4 (eP (pUn oRev (pVar 4)))) sNext)
abbrev law_0b4b (cl : Nat → Addr) : List T → Option O := (sAsgD 5 (eP (pOp oAdd (pVar 5) (pLst (pCons (pOp oAdd (pOp oAdd (pVar 7) (pC (.str " at "))) (pOp oIx (pVar 3) (pC (.int 1)))) (pCons (pOp oAdd (pOp oAdd (pVar 7) (pC (.str " at "))) (pOp oIx (pVar 3) (pC (.int 2)))) pNil))))))
abbrev law_0b4 (cl : Nat → Addr) : List T → Option O := (sFor (iP (iAnyF (pSl oSl (pVar 3) oNone (oSome (pC (.int 2)))))) (gN 7) (law_0b4b cl))
abbrev law_0b5b (cl : Nat → Addr) : List T → Option O := (sAppV 6 (eTup [none, none, none] (aCons (eCall (f_law_of cl) [some 2, none] (aBor 2 (aCons (eP (pVar 5)) aNil))) (aCons (eCall (f_law_of cl) [some 2, none] (aBor 2 (aCons (eP (pVar 4)) aNil))) (aCons (eOp [none, none] oEq (aCons (eCall (f_law_take cl) [some 2, none] (aBor 2 (aCons (eP (pC (.int 2))) aNil))) (aCons (eP (pC (.int 1))) aNil))) aNil)))))
abbrev law_0b5 (cl : Nat → Addr) : List T → Option O := (sFor (iR1E (eCall (f_law_take cl) [some 2, none] (aBor 2 (aCons (eP (pC (.int 25))) aNil)))) (gN 8) (law_0b5b cl))
abbrev law_0b6 (cl : Nat → Addr) : List T → Option O := (sAsg 9 (eList (pVar 4)))
abbrev law_0b7 (cl : Nat → Addr) : List T → Option O := (sPar [10, 11] (aCons (eMake (cl 26) (f_Senders_init cl) [none] [some 9] (aBor 9 aNil)) (aCons (eMake (cl 26) (f_Senders_init cl) [none] [none] (aCons (eP (pUn oTuple (pVar 4))) aNil)) aNil)))
abbrev law_0b8 (cl : Nat → Addr) : List T → Option O := (sRevV 9)
abbrev law_0b9 (cl : Nat → Addr) : List T → Option O := (sIf (eOr (eNot (eTest (eCall (f_law_filled cl) [some 10, none, some 6, none] (aBor 10 (aCons (eP (pVar 4)) (aBor 6 (aCons (eP (pVar 5)) aNil))))))) (eT (bWith 11 (bNot (pTest (pCall (f_law_told cl) (pCons (pVar 11) (pCons (pVar 4) (pCons (pLst pNil) (pCons (pVar 5) pNil)))))))))) (sRet (eP (pC (.bl false)))) sNext)
abbrev law_0b10 (cl : Nat → Addr) : List T → Option O := (sIf (eNot (eTest (eCall (f_law_filled cl) [some 11, none, none, none] (aBor 11 (aCons (eP (pVar 4)) (aCons (eP (pUn oRev (cVar 6))) (aCons (eP (pVar 5)) aNil))))))) (sRet (eP (pC (.bl false)))) sNext)
abbrev law_0b11 (cl : Nat → Addr) : List T → Option O := (sAsg 12 (eFu (lWith 10 (lMeth (cl 26) ["_standings", "_by_hand", "_by_stamps"] (f_Senders_names cl) (pVar 10) pNil))))
abbrev law_0b12 (cl : Nat → Addr) : List T → Option O := (sAppV 12 (eP (pC (.str "zz"))))
abbrev law_0b13 (cl : Nat → Addr) : List T → Option O := (sIf (eOr (eNot (eTest (eCall (f_law_told cl) [some 10, none, some 6, none] (aBor 10 (aCons (eP (pVar 4)) (aBor 6 (aCons (eP (pVar 5)) aNil))))))) (eNot (eTest (eCall (f_law_told cl) [some 11, none, some 6, none] (aBor 11 (aCons (eP (pVar 4)) (aBor 6 (aCons (eP (pVar 5)) aNil)))))))) (sRet (eP (pC (.bl false)))) sNext)
abbrev law_0b14 (cl : Nat → Addr) : List T → Option O := (sIf (eT (pTest (pOp oNe (pLcW [7] (iAnyF (pVar 5)) (gN 7) (bOr (pTest (pOp oNotB (pCall (f_is_sender cl) (pCons (pVar 7) pNil)) (pC (.bl true)))) (bNot (pTest (pCall (f_law_none cl) (pCons (pCall (f_law_bent cl) (pCons (pVar 7) pNil)) pNil))))) (pVar 7)) (pLst pNil)))) (sRet (eP (pC (.bl false)))) sNext)
abbrev law_0b (cl : Nat → Addr) : List T → Option O := (sSeq (law_0b0 cl) (sSeq (law_0b1 cl) (sSeq (law_0b2 cl) (sSeq (law_0b3 cl) (sSeq (law_0b4 cl) (sSeq (law_0b5 cl) (sSeq (law_0b6 cl) (sSeq (law_0b7 cl) (sSeq (law_0b8 cl) (sSeq (law_0b9 cl) (sSeq (law_0b10 cl) (sSeq (law_0b11 cl) (sSeq (law_0b12 cl) (sSeq (law_0b13 cl) (law_0b14 cl)))))))))))))))
abbrev law_0 (cl : Nat → Addr) : List T → Option O := (sFor (iP (iR1 (pOp oMax2 (pC (.int 1)) (pOp oMin2 (pC (.int 3)) (pUn oLen (pVar 0)))))) (gN 1) (law_0b cl))
abbrev law_1 (cl : Nat → Addr) : List T → Option O := (sIf (eT (bOr (pTest (pOp oNotB (pCall (f_is_sender cl) (pCons (pC (.str "at at at")) pNil)) (pC (.bl true)))) (pTest (pOp oNotB (pCall (f_is_sender cl) (pCons (pC (.str "abcdefgh at abcdefgh")) pNil)) (pC (.bl true)))))) (sRet (eP (pC (.bl false)))) sNext)
abbrev law_2 (cl : Nat → Addr) : List T → Option O := (sRet (eCall (f_law_none cl) [none] (aCons (eP (pLst (pCons (pC (.str "")) (pCons (pC (.str "at")) (pCons (pC (.str " at ")) (pCons (pC (.str "a at ")) (pCons (pC (.str "abcdefghi at b")) (pCons (pC .non) (pCons (pC (.int 5)) (pCons (pC (.bl true)) pNil)))))))))) aNil)))
end
end G21
namespace FD
open PySem PySem.Spec PyProof.Rows L2
open G01 (wd wd_inj)
namespace Enc
section
variable {α β γ : Type} [DecidableEq α] [DecidableEq β] [DecidableEq γ]
structure Srt (A : Enc α) : Prop where
  alike : ∀ a b, PySem.W.alike (A.enc a).py (A.enc b).py = true
  srt : (∀ a, ∃ x r, (A.enc a).py = .tuple (x :: r)) ∨ ∀ a, (A.enc a).py ≠ .none ∧ ∀ xs, (A.enc a).py ≠ .tuple xs
  dep : A.dep ≤ 50
theorem sS : S.Srt := ⟨fun a b => by show PySem.W.alike (.str _) (.str _) = true; unfold PySem.W.alike; rfl, .inr fun a => ⟨fun e => (nomatch (show PyData.str _ = .none from e)), fun xs e => (nomatch (show PyData.str _ = .tuple xs from e))⟩, by decide⟩
variable {A : Enc α}
def le (A : Enc α) (a b : α) : Bool := leD (A.enc a) (A.enc b)
noncomputable def sort (A : Enc α) (xs : List α) : List α := xs.mergeSort A.le
theorem le_trans {a b c : α} : A.le a b = true → A.le b c = true → A.le a c = true := fun h g => leD_tot2.trans _ _ _ h g
theorem le_total (a b : α) : A.le a b = true ∨ A.le b a = true := leD_tot2.total _ _
theorem le_refl (a : α) : A.le a a = true := (le_total a a).elim id id
theorem toks_eq {x y : PyData} (al : PySem.W.alike x y = true) (e : PySem.W.keyToks x = PySem.W.keyToks y) : PyData.eqv x y = true := by
  cases h : PyData.eqv x y with
  | true => rfl
  | false =>
    have h1 := (PySem.W.toks_eqv x y al).2 h [] [.inl 0]
    rw [e, PySem.W.lex_pre] at h1
    have h2 : PyProof.Rows.lexLt itemOrd (PySem.W.keyToks y) (PySem.W.keyToks y) = false := (listOrd itemOrd).irrefl _
    rw [h2] at h1
    cases h1
theorem le_anti (s : A.Srt) {a b : α} (h : A.le a b = true) (g : A.le b a = true) : a = b := by
  have h1 : (listOrd itemOrd).blt (PySem.W.keyToks (A.enc b).py) (PySem.W.keyToks (A.enc a).py) = false := by
    have : (!(listOrd itemOrd).blt (PySem.W.keyToks (A.enc b).py) (PySem.W.keyToks (A.enc a).py)) = true := h
    simpa using this
  have h2 : (listOrd itemOrd).blt (PySem.W.keyToks (A.enc a).py) (PySem.W.keyToks (A.enc b).py) = false := by
    have : (!(listOrd itemOrd).blt (PySem.W.keyToks (A.enc a).py) (PySem.W.keyToks (A.enc b).py)) = true := g
    simpa using this
  have e := (listOrd itemOrd).total _ _ h2 h1
  have := toks_eq (s.alike a b) e
  have h3 := A.eqv a b
  rw [show D.eqv (A.enc a) (A.enc b) = true from this] at h3
  exact of_decide_eq_true h3.symm
theorem sort_perm (xs : List α) : (A.sort xs).Perm xs := List.mergeSort_perm _ _
theorem sort_pw (xs : List α) : (A.sort xs).Pairwise (fun a b => A.le a b = true) := List.pairwise_mergeSort (fun _ _ _ => le_trans) (fun a b => by rw [Bool.or_eq_true]; exact le_total a b) xs
theorem mem_sort {a : α} {xs : List α} : a ∈ A.sort xs ↔ a ∈ xs := (sort_perm xs).mem_iff
theorem sort_len (xs : List α) : (A.sort xs).length = xs.length := (sort_perm xs).length_eq
theorem pw_uniq (s : A.Srt) {xs ys : List α} (p : xs.Perm ys) (h1 : xs.Pairwise (fun a b => A.le a b = true)) (h2 : ys.Pairwise (fun a b => A.le a b = true)) : xs = ys :=
  p.eq_of_pairwise (fun a b _ _ h g => le_anti s h g) h1 h2
theorem sort_uniq (s : A.Srt) {xs ys : List α} (p : xs.Perm ys) : A.sort xs = A.sort ys := pw_uniq s (((sort_perm xs).trans p).trans (sort_perm ys).symm) (sort_pw xs) (sort_pw ys)
theorem sort_map (xs : List α) : (xs.map A.enc).mergeSort leD = (A.sort xs).map A.enc := (List.map_mergeSort (r := A.le) (s := leD) (f := A.enc) fun a _ b _ => rfl).symm
theorem sortOk_map (s : A.Srt) {xs : List α} (hl : xs.length ≤ 100000) : sortOk (xs.map A.enc) := by
  refine ⟨fun d hd => ?_, fun d hd d' hd' => ?_, ?_, fun d hd => ?_, by simpa using hl⟩
  · obtain ⟨a, _, rfl⟩ := List.mem_map.mp hd; exact A.pure a
  · obtain ⟨x, hx, rfl⟩ := List.mem_map.mp hd
    obtain ⟨y, hy, rfl⟩ := List.mem_map.mp hd'
    obtain ⟨a, _, rfl⟩ := List.mem_map.mp hx
    obtain ⟨b, _, rfl⟩ := List.mem_map.mp hy
    exact s.alike a b
  · rcases s.srt with h | h
    · refine .inl fun d hd => ?_
      obtain ⟨x, hx, rfl⟩ := List.mem_map.mp hd
      obtain ⟨a, _, rfl⟩ := List.mem_map.mp hx
      exact h a
    · refine .inr fun d hd => ?_
      obtain ⟨x, hx, rfl⟩ := List.mem_map.mp hd
      obtain ⟨a, _, rfl⟩ := List.mem_map.mp hx
      exact h a
  · obtain ⟨a, _, rfl⟩ := List.mem_map.mp hd
    exact Nat.le_trans (A.depth a) s.dep
theorem oSortD_l (s : A.Srt) {xs : List α} (hl : xs.length ≤ 100000) : oSortD (.lst (xs.map A.enc)) = some (.lst ((A.sort xs).map A.enc)) := by
  show (some (xs.map A.enc)).bind _ = _
  rw [Option.bind_some, if_pos (sortOk_map s hl), sort_map]
end
end Enc
theorem metK_map {κ ι : Type} [DecidableEq κ] [DecidableEq ι] (f : ι → κ) (inj : ∀ a b, f a = f b → a = b) (xs : List ι) : metK (xs.map f) = (metK xs).map f := by
  have key : ∀ (xs m : List ι), (xs.map f).foldl (fun m k => if k ∈ m then m else m ++ [k]) (m.map f) = (xs.foldl (fun m k => if k ∈ m then m else m ++ [k]) m).map f := by
    intro xs
    induction xs with
    | nil => intro m; rfl
    | cons a xs ih =>
      intro m
      rw [List.map_cons, List.foldl_cons, List.foldl_cons, ← ih]
      congr 1
      by_cases h : a ∈ m
      · rw [if_pos h, if_pos (List.mem_map_of_mem h)]
      · rw [if_neg h, if_neg (fun z => h (by obtain ⟨b, hb, e⟩ := List.mem_map.mp z; exact inj _ _ e ▸ hb))]
        simp
  exact key xs []
theorem allK_map {α : Type} (f : α → D) (g : α → Key) (h : ∀ a, toK (f a) = some (g a)) : ∀ xs : List α, allK (xs.map f) = some (xs.map g)
  | [] => rfl
  | x :: xs => by
    show (toK (f x)).bind (fun k => (allK (xs.map f)).map (k :: ·)) = _
    rw [h, allK_map f g h xs]
    rfl
/-- sorted(set(xs)), xs of numbers or of texts -/
theorem oSortSet_of {α : Type} [DecidableEq α] {A : Enc α} (s : A.Srt) {g : α → Key} (hg : ∀ a, toK (A.enc a) = some (g a)) (hg2 : ∀ a, ofK (g a) = A.enc a) {x : D} {xs : List α} (hx : items x = some (xs.map A.enc)) (hl : xs.length < 4000) : oSortSet x = some ((A.sort (metK xs)).map A.enc) := by
  have inj : ∀ a b, g a = g b → a = b := fun a b e => by
    have := A.eqv a b
    rw [← hg2 a, ← hg2 b, e] at this
    have r : D.eqv (ofK (g b)) (ofK (g b)) = true := by rw [hg2, A.eqv]; simp
    rw [r] at this
    exact of_decide_eq_true this.symm
  have em : (metK (xs.map g)).map ofK = (metK xs).map A.enc := by
    rw [metK_map g inj, List.map_map]
    exact List.map_congr_left fun a _ => hg2 a
  have hlm : (metK xs).length ≤ xs.length := metK_len xs
  unfold oSortSet
  have cond : (xs.map g).length < 4000 ∧ antiK (metK (xs.map g)) ∧ sortOk ((metK (xs.map g)).map ofK) := by
    refine ⟨by simpa using hl, ?_, ?_⟩
    · rw [metK_map g inj]
      intro a ha b hb h1 h2
      obtain ⟨a', _, rfl⟩ := List.mem_map.mp ha
      obtain ⟨b', _, rfl⟩ := List.mem_map.mp hb
      rw [hg2, hg2] at h1 h2
      rw [Enc.le_anti s h1 h2]
    · rw [em]
      exact Enc.sortOk_map s (by omega)
  rw [hx, Option.bind_some, allK_map A.enc g hg, Option.bind_some, if_pos cond]
  have : sortK (metK (xs.map g)) = (A.sort (metK xs)).map g := by
    rw [metK_map g inj]
    unfold sortK
    exact (List.map_mergeSort (r := A.le) (f := g) fun a _ b _ => by show leD _ _ = _; rw [hg2, hg2]).symm
  rw [this, List.map_map]
  congr 1
  exact List.map_congr_left fun a _ => hg2 a
end FD
namespace G21
open PySem PySem.Spec PyProof.Rows L2 FD FD.FDW
open G01 (wd wd_inj nL nL_len)
abbrev Gf := List Nat × List Nat × Bool
abbrev gE : Enc Gf := Enc.P3 Enc.S Enc.S Enc.B
abbrev ks (e : Asc) : List (List Nat) := e.map (·.1)
theorem ofK_ks (e : Asc) : (dKs kS e).map ofK = nL (ks e) := by
  unfold dKs nL
  rw [List.map_map, List.map_map]
  rfl
noncomputable def allS (e1 e2 : Asc) : List (List Nat) := Enc.S.sort (metK (ks e1 ++ ks e2))
theorem names_ok (cl : Nat → Addr) {o : List (List Nat)} {e1 e2 : Asc} (h : e1.length + e2.length < 4000) : f_Senders_names cl [.d (tbD cl o e1 e2)] = some (.ret (.lst (nL (allS e1 e2))) [.d (tbD cl o e1 e2)]) := by
  have hb := big
  have l1 : (ks e1).length = e1.length := by simp
  have l2 : (ks e2).length = e2.length := by simp
  have hz : (nL (ks e1)).length + (nL (ks e2)).length ≤ sizeLine := by rw [nL_len, nL_len]; omega
  have ap : nL (ks e1) ++ nL (ks e2) = nL (ks e1 ++ ks e2) := by simp [nL]
  have e : oSortSet (.lst (nL (ks e1 ++ ks e2))) = some (nL (allS e1 e2)) := oSortSet_of Enc.sS (g := kS) (fun a => rfl) (fun a => rfl) (x := .lst (nL (ks e1 ++ ks e2))) rfl (by rw [List.length_append]; omega)
  have q1 := ofK_ks e1
  have q2 := ofK_ks e2
  refine Ok.eq ?_
  unfold f_Senders_names
  simp [-List.map_map, b_Senders_names, oListD, q1, q2, hz, ap, e]
theorem len_ok (cl : Nat → Addr) {o : List (List Nat)} {e1 e2 : Asc} (h : e1.length + e2.length < 4000) : f_Senders_len cl [.d (tbD cl o e1 e2)] = some (.ret (.d (.int ((allS e1 e2).length : Nat))) [.d (tbD cl o e1 e2)]) := by
  have e := names_ok cl (o := o) h
  refine Ok.eq ?_
  unfold f_Senders_len
  simp [b_Senders_len, e, nL_len]
/-- what a table's dicts have to do with the gifts -/
structure Rel (G : List Gf) (o ss : List (List Nat)) (e1 e2 : Asc) : Prop where
  ok : ∀ g ∈ G, gE.ok g
  h1 : ∀ s t, t ∈ gt e1 s ↔ (s, t, true) ∈ G
  h2 : ∀ s t, t ∈ gt e2 s ↔ (s, t, false) ∈ G
  k1 : ∀ s ∈ ks e1, ∃ t, (s, t, true) ∈ G
  k2 : ∀ s ∈ ks e2, ∃ t, (s, t, false) ∈ G
  inO : ∀ g ∈ G, g.2.1 ∈ o
  inS : ∀ g ∈ G, g.1 ∈ ss
  l1 : e1.length ≤ G.length
  l2 : e2.length ≤ G.length
  g1 : ∀ s, (gt e1 s).length ≤ G.length
  g2 : ∀ s, (gt e2 s).length ≤ G.length
theorem gt_key {e : Asc} {s t : List Nat} (h : t ∈ gt e s) : s ∈ ks e := by
  unfold gt at h
  cases hl : dLk e s with
  | none => rw [hl] at h; simp at h
  | some v => exact List.mem_map_of_mem (lookup_mem hl)
open Classical in
noncomputable def hands (G : List Gf) (o : List (List Nat)) (s : List Nat) : List (List Nat) := o.filter fun t => decide ((s, t, true) ∈ G)
open Classical in
noncomputable def every (G : List Gf) (o : List (List Nat)) (s : List Nat) : List (List Nat) := o.filter fun t => decide ((s, t, true) ∈ G) || decide ((s, t, false) ∈ G)
section
variable {cl : Nat → Addr} {o ss : List (List Nat)} {G : List Gf} {e1 e2 : Asc} {t0 t2 : T}
theorem in_G (ok : ∀ g ∈ G, gE.ok g) {s t : List Nat} {b : Bool} (hs : Enc.okS s) (ht : Enc.okS t) : oIn (.tup [.str (wd s), .str (wd t), .bl b]) (.lst (G.map gE.enc)) = some (.bl (open Classical in decide ((s, t, b) ∈ G))) := by
  have := Enc.inL gE (a := (s, t, b)) (xs := G) ⟨hs, ht, trivial⟩ ok
  rw [show D.tup [.str (wd s), .str (wd t), .bl b] = gE.enc (s, t, b) from rfl, this]
  congr 2
  exact decide_eq_decide.mpr Iff.rfl
theorem told_b0 (ho : o.length ≤ 1000) (hok : ∀ t ∈ o, Enc.okS t) (ok : ∀ g ∈ G, gE.ok g) {s : List Nat} (hs : Enc.okS s) (ht : t2.top = some (.lst (G.map gE.enc))) {t3 t5 t6 t7 t9 : T} :
    law_told_0b0 cl [t0, .d (.lst (nL o)), t2, t3, .d (.str (wd s)), t5, t6, t7, .em, t9] = some (.nx [t0, .d (.lst (nL o)), t2, t3, .d (.str (wd s)), .d (tN (hands G o s)), t6, t7, .em, t9]) := by
  have hb := big
  have hz : (nL o).length < sizeLine := by rw [nL_len]; omega
  have e : lcP (gN 8) (pTest (pOp oIn (pTup (pCons (pVar 4) (pCons (pVar 8) (pCons (pC (.bl true)) pNil)))) (cVar 2))) (pVar 8) [t0, .d (.lst (nL o)), t2, t3, .d (.str (wd s)), t5, t6, t7, .em, t9] (nL o) = some (nL (hands G o s)) := by
    refine Ok.eq (ok_lcP (enc := fun w => D.str (wd w)) (fun t => open Classical in decide ((s, t, true) ∈ G)) (fun w => D.str (wd w)) (fun t hm => ?_) rfl)
    have c := in_G (b := true) ok hs (hok t hm)
    have z3 : 3 ≤ sizeLine := by omega
    simp [-oIn_l, ht, z3, c]
  exact Ok.eq (by simp [e, hz])
theorem told_b1 (ho : o.length ≤ 1000) (hok : ∀ t ∈ o, Enc.okS t) (ok : ∀ g ∈ G, gE.ok g) {s : List Nat} (hs : Enc.okS s) (ht : t2.top = some (.lst (G.map gE.enc))) {t3 t5 t6 t7 t9 : T} :
    law_told_0b1 cl [t0, .d (.lst (nL o)), t2, t3, .d (.str (wd s)), t5, t6, t7, .em, t9] = some (.nx [t0, .d (.lst (nL o)), t2, t3, .d (.str (wd s)), t5, .d (tN (every G o s)), t7, .em, t9]) := by
  have hb := big
  have hz : (nL o).length < sizeLine := by rw [nL_len]; omega
  have e : lcP (gN 8) (bOr (pTest (pOp oIn (pTup (pCons (pVar 4) (pCons (pVar 8) (pCons (pC (.bl true)) pNil)))) (cVar 2))) (pTest (pOp oIn (pTup (pCons (pVar 4) (pCons (pVar 8) (pCons (pC (.bl false)) pNil)))) (cVar 2)))) (pVar 8) [t0, .d (.lst (nL o)), t2, t3, .d (.str (wd s)), t5, t6, t7, .em, t9] (nL o) = some (nL (every G o s)) := by
    refine Ok.eq (ok_lcP (enc := fun w => D.str (wd w)) (fun t => open Classical in decide ((s, t, true) ∈ G) || decide ((s, t, false) ∈ G)) (fun w => D.str (wd w)) (fun t hm => ?_) rfl)
    have c1 := in_G (b := true) ok hs (hok t hm)
    have c2 := in_G (b := false) ok hs (hok t hm)
    have z3 : 3 ≤ sizeLine := by omega
    by_cases hh : (s, t, true) ∈ G
    · simp only [hh, decide_true] at c1
      simp [-oIn_l, ht, z3, c1, c2, hh]
    · simp only [hh, decide_false] at c1
      simp [-oIn_l, ht, z3, c1, c2, hh]
  exact Ok.eq (by simp [e, hz])
end
end G21
namespace G21
open PySem PySem.Spec PyProof.Rows L2 FD FD.FDW
open G01 (wd wd_inj nL nL_len)
section
variable {cl : Nat → Addr} {o ss : List (List Nat)} {G : List Gf} {e1 e2 : Asc} {t0 t2 : T}
theorem hands_eq (R : Rel G o ss e1 e2) (s : List Nat) : (o.filter fun x => decide (x ∈ gt e1 s)) = hands G o s :=
  List.filter_congr fun t _ => decide_eq_decide.mpr (R.h1 s t)
theorem every_eq (R : Rel G o ss e1 e2) (s : List Nat) : (o.filter fun x => decide (x ∈ gt e1 s ++ gt e2 s)) = every G o s :=
  List.filter_congr fun t _ => by rw [Bool.eq_iff_iff, decide_eq_true_iff, Bool.or_eq_true, decide_eq_true_iff, decide_eq_true_iff, List.mem_append, R.h1, R.h2]
theorem there_eq (R : Rel G o ss e1 e2) (s : List Nat) : (decide (s ∈ ks e1) || decide (s ∈ ks e2)) = !decide (every G o s = []) := by
  rw [Bool.eq_iff_iff, Bool.or_eq_true, decide_eq_true_iff, decide_eq_true_iff, Bool.not_eq_true', decide_eq_false_iff_not]
  constructor
  · intro h z
    obtain ⟨t, b, hm⟩ : ∃ t b, (s, t, b) ∈ G := by
      rcases h with h | h
      · obtain ⟨t, ht⟩ := R.k1 s h; exact ⟨t, true, ht⟩
      · obtain ⟨t, ht⟩ := R.k2 s h; exact ⟨t, false, ht⟩
    have : t ∈ every G o s := List.mem_filter.mpr ⟨R.inO _ hm, by
      rw [Bool.or_eq_true, decide_eq_true_iff, decide_eq_true_iff]
      cases b
      · exact .inr hm
      · exact .inl hm⟩
    rw [z] at this
    simp at this
  · intro h
    obtain ⟨t, ht⟩ := List.exists_mem_of_ne_nil _ h
    have := (List.mem_filter.mp ht).2
    rw [Bool.or_eq_true, decide_eq_true_iff, decide_eq_true_iff] at this
    rcases this with q | q
    · exact .inl (gt_key ((R.h1 s t).mpr q))
    · exact .inr (gt_key ((R.h2 s t).mpr q))
theorem ne_tN {a : List (List Nat)} (h : ∀ t ∈ a, Enc.okS t) : oNe (tN a) (tN a) = some (.bl false) := by
  have := Enc.ne (Enc.T Enc.S) (a := a) (b := a) h h
  rw [decide_eq_true rfl] at this
  exact this
theorem ne_tN0 {a : List (List Nat)} (h : ∀ t ∈ a, Enc.okS t) : oNe (tN a) (.tup []) = some (.bl (!decide (a = []))) :=
  Enc.ne (Enc.T Enc.S) (a := a) (b := []) h (fun t z => absurd z (by simp))
theorem told_b2 (ho : o.length ≤ 1000) (hok : ∀ t ∈ o, Enc.okS t) (R : Rel G o ss e1 e2) (hl : G.length ≤ 1000) {s : List Nat} (ht : t0.toD = some (tbD cl o e1 e2)) {t2 t3 t7 t9 : T} :
    law_told_0b2 cl [t0, .d (.lst (nL o)), t2, t3, .d (.str (wd s)), .d (tN (hands G o s)), .d (tN (every G o s)), t7, .em, t9] = some (.nx [t0, .d (.lst (nL o)), t2, t3, .d (.str (wd s)), .d (tN (hands G o s)), .d (tN (every G o s)), t7, .em, t9]) := by
  have a1 := by_hand_ok cl (o := o) (e1 := e1) (e2 := e2) ho s
  have a2 := standings_ok cl (o := o) (e1 := e1) (e2 := e2) ho s (by have := R.g1 s; omega) (by have := R.g2 s; omega)
  rw [hands_eq R s] at a1
  rw [every_eq R s] at a2
  have n1 := ne_tN (a := hands G o s) fun t z => hok t (List.mem_filter.mp z).1
  have n2 := ne_tN (a := every G o s) fun t z => hok t (List.mem_filter.mp z).1
  generalize [tN o, dicD e1, dicD e2] = ds at *
  exact Ok.eq (by simp [-oNe_app, law_told_0b2, ht, a1, a2, n1, n2])
theorem told_b3 (ho : o.length ≤ 1000) (R : Rel G o ss e1 e2) (hl : G.length ≤ 1000) {s : List Nat} (ht : t0.toD = some (tbD cl o e1 e2)) {t2 t3 t5 t6 t7 t9 : T} :
    law_told_0b3 cl [t0, .d (.lst (nL o)), t2, t3, .d (.str (wd s)), t5, t6, t7, .em, t9] = some (.nx [t0, .d (.lst (nL o)), t2, t3, .d (.str (wd s)), t5, t6, t7, .em, t9]) := by
  have a1 := by_hand_ok cl (o := o) (e1 := e1) (e2 := e2) ho s
  have a2 := standings_ok cl (o := o) (e1 := e1) (e2 := e2) ho s (by have := R.g1 s; omega) (by have := R.g2 s; omega)
  generalize [tN o, dicD e1, dicD e2] = ds at *
  have i1 : ∀ xs, oIsi2 (.tup xs) (.raw (.ty "tuple")) = some (.bl true) := fun _ => rfl
  exact Ok.eq (by simp [-oNe_app, law_told_0b3, ht, a1, a2, i1])
theorem told_b4 (hok : ∀ t ∈ o, Enc.okS t) (R : Rel G o ss e1 e2) {s : List Nat} (ht : t0.toD = some (tbD cl o e1 e2)) {t2 t3 t5 t7 t9 : T} :
    law_told_0b4 cl [t0, .d (.lst (nL o)), t2, t3, .d (.str (wd s)), t5, .d (tN (every G o s)), t7, .em, t9] = some (.nx [t0, .d (.lst (nL o)), t2, t3, .d (.str (wd s)), t5, .d (tN (every G o s)), t7, .em, t9]) := by
  have a1 := contains_ok cl (o := o) (e1 := e1) (e2 := e2) s
  rw [there_eq R s] at a1
  have n2 := ne_tN0 (a := every G o s) fun t z => hok t (List.mem_filter.mp z).1
  generalize [tN o, dicD e1, dicD e2] = ds at *
  have nb : ∀ a b : Bool, oNe (.bl a) (.bl b) = some (.bl (!decide (a = b))) := fun _ _ => rfl
  exact Ok.eq (by simp [-oNe_app, law_told_0b4, ht, a1, n2, nb])
open Classical in
noncomputable def due (G : List Gf) (ss : List (List Nat)) : List (List Nat) := ss.filter fun s => decide (∃ g ∈ G, g.1 = s)
theorem all_due (R : Rel G o ss e1 e2) (nd : ss.Nodup) : allS e1 e2 = Enc.S.sort (due G ss) := by
  refine Enc.sort_uniq Enc.sS ((List.perm_ext_iff_of_nodup (metK_nodup _) (nd.sublist List.filter_sublist)).mpr fun s => ?_)
  rw [metK_mem, List.mem_append, List.mem_filter, decide_eq_true_iff]
  constructor
  · rintro (h | h)
    · obtain ⟨t, ht⟩ := R.k1 s h; exact ⟨R.inS _ ht, _, ht, rfl⟩
    · obtain ⟨t, ht⟩ := R.k2 s h; exact ⟨R.inS _ ht, _, ht, rfl⟩
  · rintro ⟨_, ⟨s', t, b⟩, hg, rfl⟩
    cases b
    · exact .inr (gt_key ((R.h2 _ t).mpr hg))
    · exact .inl (gt_key ((R.h1 _ t).mpr hg))
theorem eq_S (a b : List Nat) : oEq (.str (wd a)) (.str (wd b)) = some (.bl (decide (a = b))) := G01.oEqs a b
theorem told_1 (ok : ∀ g ∈ G, gE.ok g) (hl : G.length ≤ 1000) (hs : ss.length ≤ 1000) (ht : t2.top = some (.lst (G.map gE.enc))) {t1 t4 t5 t6 t7 : T} (h4 : dE t4) :
    law_told_1 cl [t0, t1, t2, .d (.lst (nL ss)), t4, t5, t6, t7, .em, .em] = some (.nx [t0, t1, t2, .d (.lst (nL ss)), t4, t5, t6, .d (.lst (nL (Enc.S.sort (due G ss)))), .em, .em]) := by
  have hb := big
  have hz : (nL ss).length < sizeLine := by rw [nL_len]; omega
  have hz2 : G.length < sizeLine := by omega
  have e : lcP (gN 4) (pTest (pOp oNe (pLc [9] (iAnyF (cVar 2)) (gN 9) (pTest (pOp oEq (pOp oIx (pVar 9) (pC (.int 0))) (pVar 4))) (pVar 9)) (pLst pNil))) (pVar 4) [t0, t1, t2, .d (.lst (nL ss)), .em, t5, t6, t7, .em, .em] (nL ss) = some (nL (due G ss)) := by
    refine Ok.eq (ok_lcP (enc := fun w => D.str (wd w)) (fun s => open Classical in decide (∃ g ∈ G, g.1 = s)) (fun w => D.str (wd w)) (fun s hm => ?_) rfl)
    have i : lcP (gN 9) (pTest (pOp oEq (pOp oIx (pVar 9) (pC (.int 0))) (pVar 4))) (pVar 9) [t0, t1, t2, .d (.lst (nL ss)), .d (.str (wd s)), t5, t6, t7, .em, .em] (G.map gE.enc) = some ((G.filter fun g => decide (g.1 = s)).map gE.enc) := by
      refine Ok.eq (ok_lcP (enc := gE.enc) (fun g => decide (g.1 = s)) gE.enc (fun g hg => ?_) rfl)
      have c := eq_S g.1 s
      have x0 : oIx (gE.enc g) (.int 0) = some (.str (wd g.1)) := atI_00 _ _
      generalize gE.enc g = y at *
      simp [-oEq_app, x0, c]
    have n : oNe (.lst ((G.filter fun g => decide (g.1 = s)).map gE.enc)) (.lst []) = some (.bl (open Classical in decide (∃ g ∈ G, g.1 = s))) := by
      have := Enc.ne (Enc.L gE) (a := G.filter fun g => decide (g.1 = s)) (b := []) (fun g hg => ok g (List.mem_filter.mp hg).1) (fun g hg => absurd hg (by simp))
      refine Eq.trans this ?_
      congr 2
      rw [Bool.eq_iff_iff, Bool.not_eq_true', decide_eq_false_iff_not, decide_eq_true_iff]
      constructor
      · intro h
        obtain ⟨g, hg⟩ := List.exists_mem_of_ne_nil _ h
        have := List.mem_filter.mp hg
        exact ⟨g, this.1, of_decide_eq_true this.2⟩
      · rintro ⟨g, hg, e⟩ z
        have : g ∈ G.filter fun g => decide (g.1 = s) := List.mem_filter.mpr ⟨hg, decide_eq_true e⟩
        rw [z] at this
        simp at this
    simp [-oNe_app, ht, hz2, i, n]
  have so : oSortD (.lst (nL (due G ss))) = some (.lst (nL (Enc.S.sort (due G ss)))) := Enc.oSortD_l Enc.sS (by
    have : (due G ss).length ≤ ss.length := List.length_filter_le _ _
    omega)
  rcases h4 with rfl | ⟨x, rfl⟩ <;> exact Ok.eq (by simp [-oNe_app, law_told_1, hz, e, so])
end
end G21
namespace G21
open PySem PySem.Spec PyProof.Rows L2 FD FD.FDW
open G01 (wd wd_inj nL nL_len)
section
variable {cl : Nat → Addr} {o ss : List (List Nat)} {G : List Gf} {e1 e2 : Asc} {t0 t2 : T}
theorem eq_L {a : List (List Nat)} (h : ∀ t ∈ a, Enc.okS t) : oEq (.lst (nL a)) (.lst (nL a)) = some (.bl true) := by
  have := Enc.eq (Enc.L Enc.S) (a := a) (b := a) h h
  rw [decide_eq_true rfl] at this
  exact this
theorem told_2 (R : Rel G o ss e1 e2) (nd : ss.Nodup) (hl : G.length ≤ 1000) (hs : ss.length ≤ 1000) (oks : ∀ s ∈ ss, Enc.okS s) (ht : t0.toD = some (tbD cl o e1 e2)) {t1 t2 t3 t4 t5 t6 : T} :
    law_told_2 cl [t0, t1, t2, t3, t4, t5, t6, .d (.lst (nL (Enc.S.sort (due G ss)))), .em, .em] = some (.rt (.d (.bl true)) [t0, t1, t2, t3, t4, t5, t6, .d (.lst (nL (Enc.S.sort (due G ss)))), .em, .em]) := by
  have hb := big
  have b1 := R.l1
  have b2 := R.l2
  have a1 := names_ok cl (o := o) (e1 := e1) (e2 := e2) (by omega)
  have a2 := len_ok cl (o := o) (e1 := e1) (e2 := e2) (by omega)
  rw [all_due R nd] at a1 a2
  have hd : (due G ss).length ≤ ss.length := List.length_filter_le _ _
  have hlen : (Enc.S.sort (due G ss)).length ≤ 1000 := by rw [Enc.sort_len]; omega
  have q := eq_L (a := Enc.S.sort (due G ss)) fun t z => oks t (List.mem_filter.mp (Enc.mem_sort.mp z)).1
  generalize Enc.S.sort (due G ss) = L at *
  generalize [tN o, dicD e1, dicD e2] = ds at *
  have i1 : ∀ xs, oIsi2 (.lst xs) (.raw (.ty "list")) = some (.bl true) := fun _ => rfl
  have i2 : ∀ a : Int, oEq (.int a) (.int a) = some (.bl true) := fun a => by rw [show oEq (.int a) (.int a) = some (.bl (decide (a = a))) from rfl]; simp
  have hn : (L.length : Int) < 9223372036854775808 := by omega
  exact Ok.eq (by simp [-oEq_app, law_told_2, ht, a1, a2, i1, i2, q, nL_len, hn])
def TdP (t0 t1 t2 t3 : T) (o : O) : Prop := ∃ u4 u5 u6 u7 u8 u9, o = .rt (.d (.bl true)) [t0, t1, t2, t3, u4, u5, u6, u7, u8, u9]
def TdI (t0 t1 t2 t3 : T) (γ : List T) : Prop := ∃ u4 u5 u6 u7, dE u4 ∧ γ = [t0, t1, t2, t3, u4, u5, u6, u7, .em, .em]
theorem told_body (R : Rel G o ss e1 e2) (ho : o.length ≤ 1000) (hok : ∀ t ∈ o, Enc.okS t) (nd : ss.Nodup) (hl : G.length ≤ 1000) (hs : ss.length ≤ 1000) (oks : ∀ s ∈ ss, Enc.okS s) (ht : t0.toD = some (tbD cl o e1 e2)) (ht2 : t2.top = some (.lst (G.map gE.enc))) :
    Ok (b_law_told cl [t0, .d (.lst (nL o)), t2, .d (.lst (nL ss)), .em, .em, .em, .em, .em, .em]) (TdP t0 (.d (.lst (nL o))) t2 (.d (.lst (nL ss)))) := by
  have hb := big
  have loop : Ok (law_told_0 cl [t0, .d (.lst (nL o)), t2, .d (.lst (nL ss)), .em, .em, .em, .em, .em, .em]) fun q => ∃ γ, TdI t0 (.d (.lst (nL o))) t2 (.d (.lst (nL ss))) γ ∧ q = .nx γ := by
    have hz : (nL ss).length < sizeLine := by rw [nL_len]; omega
    unfold law_told_0
    simp [hz]
    refine ok_for (xs := ss) (enc := fun w => D.str (wd w)) (fun _ γ => TdI t0 (.d (.lst (nL o))) t2 (.d (.lst (nL ss))) γ) ⟨.em, .em, .em, .em, .inl rfl, rfl⟩ ?_ (fun γ h => ⟨γ, h, rfl⟩)
    rintro i hi γ ⟨u4, u5, u6, u7, _, rfl⟩
    rw [ok_gN, ok_some]
    have b0 := told_b0 (t0 := t0) ho hok R.ok (oks _ (List.getElem_mem hi)) ht2 (cl := cl) (t3 := .d (.lst (nL ss))) (t5 := u5) (t6 := u6) (t7 := u7) (t9 := .em)
    have b1 := told_b1 (t0 := t0) ho hok R.ok (oks _ (List.getElem_mem hi)) ht2 (cl := cl) (t3 := .d (.lst (nL ss))) (t5 := .d (tN (hands G o ss[i]))) (t6 := u6) (t7 := u7) (t9 := .em)
    have b2 := told_b2 ho hok R hl (s := ss[i]) ht (t2 := t2) (t3 := .d (.lst (nL ss))) (t7 := u7) (t9 := .em)
    have b3 := told_b3 ho R hl (s := ss[i]) ht (t2 := t2) (t3 := .d (.lst (nL ss))) (t5 := .d (tN (hands G o ss[i]))) (t6 := .d (tN (every G o ss[i]))) (t7 := u7) (t9 := .em)
    have b4 := told_b4 hok R (s := ss[i]) ht (t2 := t2) (t3 := .d (.lst (nL ss))) (t5 := .d (tN (hands G o ss[i]))) (t7 := u7) (t9 := .em)
    refine ok_seq b0 (ok_seq b1 (ok_seq b2 (ok_seq b3 (Ok.of b4 ?_))))
    exact ⟨_, _, _, _, .inr ⟨_, rfl⟩, rfl⟩
  unfold b_law_told
  refine ok_seqP loop ?_
  rintro q ⟨γ, ⟨u4, u5, u6, u7, h4, rfl⟩, rfl⟩
  refine ⟨_, rfl, ?_⟩
  refine ok_seq (told_1 (cl := cl) R.ok hl hs ht2 h4) (Ok.of (told_2 R nd hl hs oks ht) ⟨_, _, _, _, _, _, rfl⟩)
/-- the table an object of one's own, the gifts a list of one's own -/
theorem told_own (R : Rel G o ss e1 e2) (ho : o.length ≤ 1000) (hok : ∀ t ∈ o, Enc.okS t) (nd : ss.Nodup) (hl : G.length ≤ 1000) (hs : ss.length ≤ 1000) (oks : ∀ s ∈ ss, Enc.okS s) :
    f_law_told cl [tbT cl o e1 e2, .d (.lst (nL o)), .lst (G.map gE.enc), .d (.lst (nL ss))] = some (.ret (.d (.bl true)) [tbT cl o e1 e2, .d (.lst (nL o)), .lst (G.map gE.enc), .d (.lst (nL ss))]) := by
  have k := told_body (cl := cl) R ho hok nd hl hs oks (tb_toD cl o e1 e2) (t2 := .lst (G.map gE.enc)) rfl
  refine Ok.eq ?_
  unfold f_law_told
  rw [ok_fnF, ok_iteN]
  refine ⟨⟨rfl, rfl⟩, ?_⟩
  rw [ok_bind]
  refine k.mono ?_
  rintro q ⟨u4, u5, u6, u7, u8, u9, rfl⟩
  generalize hT : tbT cl o e1 e2 = X
  simp
  rw [← hT]
  simp
theorem told_data (R : Rel G o ss e1 e2) (ho : o.length ≤ 1000) (hok : ∀ t ∈ o, Enc.okS t) (nd : ss.Nodup) (hl : G.length ≤ 1000) (hs : ss.length ≤ 1000) (oks : ∀ s ∈ ss, Enc.okS s) :
    f_law_told cl [.d (tbD cl o e1 e2), .d (.lst (nL o)), .d (.lst (G.map gE.enc)), .d (.lst (nL ss))] = some (.ret (.d (.bl true)) [.d (tbD cl o e1 e2), .d (.lst (nL o)), .d (.lst (G.map gE.enc)), .d (.lst (nL ss))]) := by
  have k := told_body (cl := cl) R ho hok nd hl hs oks (t0 := .d (tbD cl o e1 e2)) (by simp [T.toD]) (t2 := .d (.lst (G.map gE.enc))) rfl
  refine Ok.eq ?_
  unfold f_law_told
  rw [ok_fnF, ok_iteN]
  refine ⟨⟨rfl, rfl⟩, ?_⟩
  rw [ok_bind]
  refine k.mono ?_
  rintro q ⟨u4, u5, u6, u7, u8, u9, rfl⟩
  generalize tbD cl o e1 e2 = X
  simp
end
end G21
namespace G21
open PySem PySem.Spec PyProof.Rows L2 FD FD.FDW
open G01 (wd wd_inj nL nL_len)
section
variable {cl : Nat → Addr} {o ss : List (List Nat)} {G : List Gf} {e1 e2 : Asc} {t0 t2 : T}
theorem tsK (e : Asc) (s : List Nat) (v : List (List Nat)) : putTsK (dKs kS e) (dTs (fun v => .d (tN v)) e) (.inr (wd s)) (.d (tN v)) = dTs (fun v => .d (tN v)) (dPt e s v) := putTsK_d kS_inj (fun v => T.d (tN v)) e s v
theorem ksK (e : Asc) (s : List Nat) (v : List (List Nat)) : putKs (dKs kS e) (.inr (wd s)) = dKs kS (dPt e s v) := putKs_d kS_inj e s v
theorem give_t {s t : List Nat} (h : e1.length ≤ 1000) (hg : (gt e1 s).length ≤ 1000) : f_Senders_give cl [tbT cl o e1 e2, .d (.str (wd s)), .d (.str (wd t)), .d (.bl true)] = some (.ret (.d (.bl (!decide (t ∈ gt e1 s)))) [tbT cl o (if t ∈ gt e1 s then e1 else dPt e1 s (gt e1 s ++ [t])) e2, .d (.str (wd s)), .d (.str (wd t)), .d (.bl true)]) := by
  have hb := big
  have i := in_t t (gt e1 s)
  have g := get_tup e1 s
  have tp := dic_top e1
  have ap : nL (gt e1 s) ++ [D.str (wd t)] = nL (gt e1 s ++ [t]) := by simp [nL]
  have p1 := tsK e1 s (gt e1 s ++ [t])
  have p2 := ksK e1 s (gt e1 s ++ [t])
  have hz : (nL (gt e1 s)).length + 1 ≤ sizeLine := by rw [nL_len]; omega
  have hz2 : (dKs kS e1).length < sizeLine := by rw [dKs_len]; omega
  refine Ok.eq ?_
  unfold f_Senders_give
  by_cases hm : t ∈ gt e1 s
  · have i' : oIn (.str (wd t)) (tN (gt e1 s)) = some (.bl true) := by rw [i]; simpa using hm
    simp [-oIn_t, b_Senders_give, gAt, T.at_, T.kids, tp, g, toK, i', hm]
  · have i' : oIn (.str (wd t)) (tN (gt e1 s)) = some (.bl false) := by rw [i]; simpa using hm
    simp [-oIn_t, b_Senders_give, gAt, T.at_, T.kids, tp, g, toK, i', hm, hz, hz2, ap, p1, p2, gPut, T.put, T.setKid, (by omega : 1 ≤ sizeLine)]
theorem give_f {s t : List Nat} (h : e2.length ≤ 1000) (hg : (gt e2 s).length ≤ 1000) : f_Senders_give cl [tbT cl o e1 e2, .d (.str (wd s)), .d (.str (wd t)), .d (.bl false)] = some (.ret (.d (.bl (!decide (t ∈ gt e2 s)))) [tbT cl o e1 (if t ∈ gt e2 s then e2 else dPt e2 s (gt e2 s ++ [t])), .d (.str (wd s)), .d (.str (wd t)), .d (.bl false)]) := by
  have hb := big
  have i := in_t t (gt e2 s)
  have g := get_tup e2 s
  have tp := dic_top e2
  have ap : nL (gt e2 s) ++ [D.str (wd t)] = nL (gt e2 s ++ [t]) := by simp [nL]
  have p1 := tsK e2 s (gt e2 s ++ [t])
  have p2 := ksK e2 s (gt e2 s ++ [t])
  have hz : (nL (gt e2 s)).length + 1 ≤ sizeLine := by rw [nL_len]; omega
  have hz2 : (dKs kS e2).length < sizeLine := by rw [dKs_len]; omega
  refine Ok.eq ?_
  unfold f_Senders_give
  by_cases hm : t ∈ gt e2 s
  · have i' : oIn (.str (wd t)) (tN (gt e2 s)) = some (.bl true) := by rw [i]; simpa using hm
    simp [-oIn_t, b_Senders_give, gAt, T.at_, T.kids, tp, g, toK, i', hm]
  · have i' : oIn (.str (wd t)) (tN (gt e2 s)) = some (.bl false) := by rw [i]; simpa using hm
    simp [-oIn_t, b_Senders_give, gAt, T.at_, T.kids, tp, g, toK, i', hm, hz, hz2, ap, p1, p2, gPut, T.put, T.setKid, (by omega : 1 ≤ sizeLine)]
/-- a gift taken -/
noncomputable def giv (b : Bool) (s t : List Nat) (p : Asc × Asc) : Asc × Asc := if b then (if t ∈ gt p.1 s then p.1 else dPt p.1 s (gt p.1 s ++ [t]), p.2) else (p.1, if t ∈ gt p.2 s then p.2 else dPt p.2 s (gt p.2 s ++ [t]))
def had (b : Bool) (s t : List Nat) (p : Asc × Asc) : Bool := decide (t ∈ gt (if b then p.1 else p.2) s)
theorem given_ok {g : Gf} (R : Rel G o ss e1 e2) (hl : G.length ≤ 900) : f_law_given cl [tbT cl o e1 e2, .d (gE.enc g)] = some (.ret (.d (.bl (!had g.2.2 g.1 g.2.1 (e1, e2)))) [tbT cl o (giv g.2.2 g.1 g.2.1 (e1, e2)).1 (giv g.2.2 g.1 g.2.1 (e1, e2)).2, .d (gE.enc g)]) := by
  obtain ⟨s, t, b⟩ := g
  have b1 := R.l1
  have b2 := R.l2
  have x0 : oIx (gE.enc (s, t, b)) (.int 0) = some (.str (wd s)) := atI_00 _ _
  have x1 : oIx (gE.enc (s, t, b)) (.int 1) = some (.str (wd t)) := atI_11 _ _ _
  have x2 : oIx (gE.enc (s, t, b)) (.int 2) = some (.bl b) := atI_22 _ _ _ _
  generalize hy : gE.enc (s, t, b) = y at *
  have w1 := give_t (cl := cl) (o := o) (e1 := e1) (e2 := e2) (s := s) (t := t) (by omega) (by have := R.g1 s; omega)
  have w2 := give_f (cl := cl) (o := o) (e1 := e1) (e2 := e2) (s := s) (t := t) (by omega) (by have := R.g2 s; omega)
  refine Ok.eq ?_
  unfold f_law_given
  cases b
  · simp [b_law_given, x0, x1, x2, weave, holes, w2, giv, had]
  · simp [b_law_given, x0, x1, x2, weave, holes, w1, giv, had]
end
end G21
namespace G21
open PySem PySem.Spec PyProof.Rows L2 FD FD.FDW
open G01 (wd wd_inj nL nL_len)
section
variable {cl : Nat → Addr} {o ss : List (List Nat)} {G : List Gf} {e1 e2 : Asc} {t0 t2 : T}
theorem gt_dPt (e : Asc) (s : List Nat) (v : List (List Nat)) (j : List Nat) : gt (dPt e s v) j = if j = s then v else gt e j := by
  unfold gt
  rw [lookup_dPt]
  split <;> rfl
theorem gt_one (e : Asc) (s t s' t' : List Nat) : t' ∈ gt (if t ∈ gt e s then e else dPt e s (gt e s ++ [t])) s' ↔ t' ∈ gt e s' ∨ (s' = s ∧ t' = t) := by
  by_cases h : t ∈ gt e s
  · rw [if_pos h]
    exact ⟨.inl, fun z => z.elim id fun ⟨a, b⟩ => by rw [a, b]; exact h⟩
  · rw [if_neg h, gt_dPt]
    by_cases hs : s' = s
    · subst hs
      rw [if_pos rfl, List.mem_append, List.mem_singleton]
      simp
    · rw [if_neg hs]
      simp [hs]
theorem ks_one (e : Asc) (s t s' : List Nat) : s' ∈ ks (if t ∈ gt e s then e else dPt e s (gt e s ++ [t])) → s' ∈ ks e ∨ s' = s := by
  by_cases h : t ∈ gt e s
  · rw [if_pos h]; exact .inl
  · rw [if_neg h]
    show s' ∈ (dPt e s _).map (·.1) → _
    rw [keys_dPt]
    split
    · exact .inl
    · intro z
      rcases List.mem_append.mp z with z | z
      · exact .inl z
      · exact .inr (List.mem_singleton.mp z)
theorem len_one (e : Asc) (s t : List Nat) : (if t ∈ gt e s then e else dPt e s (gt e s ++ [t])).length ≤ e.length + 1 := by
  split
  · omega
  · exact dPt_len _ _ _
theorem glen_one (e : Asc) (s t s' : List Nat) {n : Nat} (h : ∀ s, (gt e s).length ≤ n) : (gt (if t ∈ gt e s then e else dPt e s (gt e s ++ [t])) s').length ≤ n + 1 := by
  split
  · have := h s'; omega
  · rw [gt_dPt]
    split
    · have := h s; rw [List.length_append]; simp; omega
    · have := h s'; omega
theorem Rel.give (R : Rel G o ss e1 e2) {g : Gf} (ok : gE.ok g) (hO : g.2.1 ∈ o) (hS : g.1 ∈ ss) : Rel (G ++ [g]) o ss (giv g.2.2 g.1 g.2.1 (e1, e2)).1 (giv g.2.2 g.1 g.2.1 (e1, e2)).2 := by
  obtain ⟨s, t, b⟩ := g
  have mem : ∀ s' t' b', (s', t', b') ∈ G ++ [(s, t, b)] ↔ (s', t', b') ∈ G ∨ (s' = s ∧ t' = t ∧ b' = b) := fun s' t' b' => by
    rw [List.mem_append, List.mem_singleton, Prod.mk.injEq, Prod.mk.injEq]
  have all : ∀ {P : Gf → Prop}, (∀ g ∈ G, P g) → P (s, t, b) → ∀ g ∈ G ++ [(s, t, b)], P g := fun h1 h2 g hg => (List.mem_append.mp hg).elim (h1 g) fun z => by rw [List.mem_singleton.mp z]; exact h2
  have hlen : (G ++ [(s, t, b)]).length = G.length + 1 := by simp
  cases b
  · refine ⟨all R.ok ok, fun s' t' => ?_, fun s' t' => ?_, fun s' h => ?_, fun s' h => ?_, all R.inO hO, all R.inS hS, ?_, ?_, fun s' => ?_, fun s' => ?_⟩
    · rw [mem]; simp [giv, R.h1]
    · rw [mem]; show t' ∈ gt (if _ then _ else _) s' ↔ _; rw [gt_one, R.h2]; simp
    · obtain ⟨t', h⟩ := R.k1 s' h; exact ⟨t', List.mem_append_left _ h⟩
    · rcases ks_one e2 s t s' h with h | h
      · obtain ⟨t', h⟩ := R.k2 s' h; exact ⟨t', List.mem_append_left _ h⟩
      · subst h; exact ⟨t, by simp⟩
    · rw [hlen]; have := R.l1; show e1.length ≤ _; omega
    · rw [hlen]; have := R.l2; have := len_one e2 s t; show (if t ∈ gt e2 s then e2 else dPt e2 s (gt e2 s ++ [t])).length ≤ _; omega
    · rw [hlen]; have := R.g1 s'; show (gt e1 s').length ≤ _; omega
    · rw [hlen]; exact glen_one e2 s t s' R.g2
  · refine ⟨all R.ok ok, fun s' t' => ?_, fun s' t' => ?_, fun s' h => ?_, fun s' h => ?_, all R.inO hO, all R.inS hS, ?_, ?_, fun s' => ?_, fun s' => ?_⟩
    · rw [mem]; show t' ∈ gt (if _ then _ else _) s' ↔ _; rw [gt_one, R.h1]; simp
    · rw [mem]; simp [giv, R.h2]
    · rcases ks_one e1 s t s' h with h | h
      · obtain ⟨t', h⟩ := R.k1 s' h; exact ⟨t', List.mem_append_left _ h⟩
      · subst h; exact ⟨t, by simp⟩
    · obtain ⟨t', h⟩ := R.k2 s' h; exact ⟨t', List.mem_append_left _ h⟩
    · rw [hlen]; have := R.l1; have := len_one e1 s t; show (if t ∈ gt e1 s then e1 else dPt e1 s (gt e1 s ++ [t])).length ≤ _; omega
    · rw [hlen]; have := R.l2; show e2.length ≤ _; omega
    · rw [hlen]; exact glen_one e1 s t s' R.g1
    · rw [hlen]; have := R.g2 s'; show (gt e2 s').length ≤ _; omega
theorem Rel.nil : Rel [] o ss [] [] := ⟨by simp, by simp [gt, dLk], by simp [gt, dLk], by simp [ks], by simp [ks], by simp, by simp, by simp, by simp, by simp [gt, dLk], by simp [gt, dLk]⟩
theorem had_eq (R : Rel G o ss e1 e2) (g : Gf) : had g.2.2 g.1 g.2.1 (e1, e2) = (open Classical in decide (g ∈ G)) := by
  obtain ⟨s, t, b⟩ := g
  unfold had
  cases b
  · exact decide_eq_decide.mpr (R.h2 s t)
  · exact decide_eq_decide.mpr (R.h1 s t)
theorem bool_ok (b : Bool) : f_law_bool cl [.d (.bl b), .d (.bl b)] = some (.ret (.d (.bl true)) [.d (.bl b), .d (.bl b)]) := by
  have i1 : oIsi2 (.bl b) (.raw (.ty "bool")) = some (.bl true) := rfl
  refine Ok.eq ?_
  unfold f_law_bool
  simp [b_law_bool, i1]
def FlI (cl : Nat → Addr) (o ss : List (List Nat)) (rs : List Gf) (i : Nat) (γ : List T) : Prop := ∃ e1 e2 u5, Rel (rs.take i) o ss e1 e2 ∧ γ = [tbT cl o e1 e2, .d (.lst (nL o)), .d (.lst (rs.map gE.enc)), .d (.lst (nL ss)), .lst ((rs.take i).map gE.enc), u5]
structure Rows (rs : List Gf) (o ss : List (List Nat)) : Prop where
  ok : ∀ g ∈ rs, gE.ok g
  inO : ∀ g ∈ rs, g.2.1 ∈ o
  inS : ∀ g ∈ rs, g.1 ∈ ss
  len : rs.length ≤ 100
structure Grd (o ss : List (List Nat)) : Prop where
  lo : o.length ≤ 1000
  oko : ∀ t ∈ o, Enc.okS t
  nd : ss.Nodup
  ls : ss.length ≤ 1000
  oks : ∀ s ∈ ss, Enc.okS s
theorem filled_turn (W : Grd o ss) {rs : List Gf} (hr : Rows rs o ss) {i : Nat} (hi : i < rs.length) {γ : List T} (h : FlI cl o ss rs i γ) :
    Ok (gN 5 (gE.enc rs[i]) γ) fun γ1 => Ok (law_filled_1b cl γ1) fun q => ∃ γ2, FlI cl o ss rs (i + 1) γ2 ∧ q = .nx γ2 := by
  have hb := big
  obtain ⟨e1, e2, u5, R, rfl⟩ := h
  have hm := List.getElem_mem hi
  have ht : rs.take (i + 1) = rs.take i ++ [rs[i]] := (List.take_append_getElem hi).symm
  have hl : (rs.take i).length ≤ 900 := by rw [List.length_take]; have := hr.len; omega
  have R2 : Rel (rs.take (i + 1)) o ss _ _ := ht ▸ R.give (hr.ok _ hm) (hr.inO _ hm) (hr.inS _ hm)
  have gi := given_ok (cl := cl) (g := rs[i]) R hl
  rw [had_eq R] at gi
  have ni : oNotIn (gE.enc rs[i]) (.lst ((rs.take i).map gE.enc)) = some (.bl (!(open Classical in decide (rs[i] ∈ rs.take i)))) := by
    exact (Enc.notInL gE (hr.ok _ hm) R.ok).trans (congrArg (fun b => some (D.bl (!b))) (decide_eq_decide.mpr Iff.rfl))
  have bo := bool_ok (cl := cl) (!(open Classical in decide (rs[i] ∈ rs.take i)))
  have td := told_own (cl := cl) R2 W.lo W.oko W.nd (by rw [List.length_take]; have := hr.len; omega) W.ls W.oks
  rw [ok_gN, ok_some]
  generalize giv rs[i].2.2 rs[i].1 rs[i].2.1 (e1, e2) = p at *
  obtain ⟨f1, f2⟩ := p
  dsimp only at R2 td gi
  have hz : (rs.take i).length < sizeLine := by omega
  have ap : (rs.take i).map gE.enc ++ [gE.enc rs[i]] = (rs.take (i + 1)).map gE.enc := by rw [ht, List.map_append]; rfl
  have a0 : law_filled_1b0 cl [tbT cl o e1 e2, .d (.lst (nL o)), .d (.lst (rs.map gE.enc)), .d (.lst (nL ss)), .lst ((rs.take i).map gE.enc), .d (gE.enc rs[i])] = some (.nx [tbT cl o f1 f2, .d (.lst (nL o)), .d (.lst (rs.map gE.enc)), .d (.lst (nL ss)), .lst ((rs.take i).map gE.enc), .d (gE.enc rs[i])]) := by
    generalize gE.enc rs[i] = y at *
    generalize (open Classical in decide (rs[i] ∈ rs.take i)) = b at *
    exact Ok.eq (by simp [-oNotIn_l, -List.map_take, law_filled_1b0, gi, ni, bo])
  have a1 : law_filled_1b1 cl [tbT cl o f1 f2, .d (.lst (nL o)), .d (.lst (rs.map gE.enc)), .d (.lst (nL ss)), .lst ((rs.take i).map gE.enc), .d (gE.enc rs[i])] = some (.nx [tbT cl o f1 f2, .d (.lst (nL o)), .d (.lst (rs.map gE.enc)), .d (.lst (nL ss)), .lst ((rs.take (i + 1)).map gE.enc), .d (gE.enc rs[i])]) := by
    rw [← ap]
    generalize gE.enc rs[i] = y at *
    generalize hq : (rs.take i).map gE.enc = q at *
    have hz : q.length < sizeLine := by rw [← hq, List.length_map]; exact hz
    exact Ok.eq (by simp [law_filled_1b1, hz])
  have a2 : law_filled_1b2 cl [tbT cl o f1 f2, .d (.lst (nL o)), .d (.lst (rs.map gE.enc)), .d (.lst (nL ss)), .lst ((rs.take (i + 1)).map gE.enc), .d (gE.enc rs[i])] = some (.nx [tbT cl o f1 f2, .d (.lst (nL o)), .d (.lst (rs.map gE.enc)), .d (.lst (nL ss)), .lst ((rs.take (i + 1)).map gE.enc), .d (gE.enc rs[i])]) := by
    generalize gE.enc rs[i] = y at *
    generalize (rs.take (i + 1)).map gE.enc = q at *
    exact Ok.eq (by simp [law_filled_1b2, td])
  refine ok_seq a0 (ok_seq a1 (Ok.of a2 ⟨_, ⟨f1, f2, _, R2, rfl⟩, rfl⟩))
def FlP (cl : Nat → Addr) (o ss : List (List Nat)) (rs : List Gf) (q : RF) : Prop := ∃ e1 e2, Rel rs o ss e1 e2 ∧ q = .ret (.d (.bl true)) [tbT cl o e1 e2, .d (.lst (nL o)), .d (.lst (rs.map gE.enc)), .d (.lst (nL ss))]
theorem filled_body (W : Grd o ss) {rs : List Gf} (hr : Rows rs o ss) {t2 : T} (h2 : t2 = .lst (rs.map gE.enc) ∨ t2 = .d (.lst (rs.map gE.enc))) :
    Ok (b_law_filled cl [tbT cl o [] [], .d (.lst (nL o)), t2, .d (.lst (nL ss)), .em, .em]) fun q => ∃ γ, FlI cl o ss rs rs.length γ ∧ q = .rt (.d (.bl true)) γ := by
  have hb := big
  have hz : (rs.map gE.enc).length < sizeLine := by rw [List.length_map]; have := hr.len; omega
  have loop : ∀ t2 : T, t2 = .lst (rs.map gE.enc) ∨ t2 = .d (.lst (rs.map gE.enc)) → Ok (law_filled_1 cl [tbT cl o [] [], .d (.lst (nL o)), t2, .d (.lst (nL ss)), .lst [], .em]) fun q => ∃ γ, FlI cl o ss rs rs.length γ ∧ q = .nx γ := fun t2 h2 => by
    have k : Ok (forS (gN 5) (law_filled_1b cl) (rs.map gE.enc) [tbT cl o [] [], .d (.lst (nL o)), .d (.lst (rs.map gE.enc)), .d (.lst (nL ss)), .lst [], .em]) fun q => ∃ γ, FlI cl o ss rs rs.length γ ∧ q = .nx γ :=
      ok_for (fun i γ => FlI cl o ss rs i γ) ⟨[], [], .em, Rel.nil, rfl⟩ (fun i hi γ h => (filled_turn W hr hi h).mono fun γ1 h1 => h1.mono fun q h2 => by
        obtain ⟨γ2, h3, rfl⟩ := h2
        exact h3) fun γ h => ⟨γ, h, rfl⟩
    unfold law_filled_1
    generalize law_filled_1b cl = B at k
    generalize rs.map gE.enc = q at *
    rcases h2 with rfl | rfl
    · simp [hz]; exact k
    · simp [hz]; exact k
  unfold b_law_filled
  refine ok_seq (γ' := [tbT cl o [] [], .d (.lst (nL o)), t2, .d (.lst (nL ss)), .lst [], .em]) (Ok.eq (by simp)) (ok_seqP (loop t2 h2) ?_)
  rintro q ⟨γ, h, rfl⟩
  refine ⟨γ, rfl, ?_⟩
  simp
  exact h
theorem filled_ok (W : Grd o ss) {rs : List Gf} (hr : Rows rs o ss) {t2 : T} (h2 : t2 = .lst (rs.map gE.enc) ∨ t2 = .d (.lst (rs.map gE.enc))) :
    Ok (f_law_filled cl [tbT cl o [] [], .d (.lst (nL o)), t2, .d (.lst (nL ss))]) (FlP cl o ss rs) := by
  have k := filled_body (cl := cl) W hr h2
  unfold f_law_filled
  rw [ok_fnF, ok_iteN]
  refine ⟨by rcases h2 with rfl | rfl <;> exact ⟨rfl, rfl⟩, ?_⟩
  rw [ok_bind]
  refine k.mono ?_
  rintro q ⟨γ, ⟨e1, e2, u5, R, rfl⟩, rfl⟩
  rw [List.take_of_length_le (Nat.le_refl _)] at R ⊢
  refine ⟨_, rfl, e1, e2, R, ?_⟩
  rcases h2 with rfl | rfl <;> rfl
end
end G21
namespace G01
open PySem PySem.Spec PyProof.Rows L2 FD FD.FD9
end G01
namespace G01
open PySem PySem.Spec PyProof.Rows L2 FD FD.FD9
theorem le_a' {c : Nat} (h : ¬ 97 ≤ c) : oLe (.str (Str.ofString "a")) (.str ⟨#[c]⟩) = some (.bl false) := by
  have e : (Str.ofString "a").cps.toList = [97] := by decide
  have : ([c] < [97]) := by rw [List.cons_lt_cons_iff]; exact .inl (by omega)
  simp only [oLe, e]
  rw [decide_eq_true this]
  rfl
theorem le_z' {c : Nat} (h : ¬ c ≤ 122) : oLe (.str ⟨#[c]⟩) (.str (Str.ofString "z")) = some (.bl false) := by
  have e : (Str.ofString "z").cps.toList = [122] := by decide
  have : ([122] < [c]) := by rw [List.cons_lt_cons_iff]; exact .inl (by omega)
  simp only [oLe, e]
  rw [decide_eq_true this]
  rfl
theorem allB_of {p : Nat → Bool} : ∀ cs : List Nat, FD.allB (cs.map fun c => D.bl (p c)) = some (cs.map p)
  | [] => rfl
  | c :: cs => by simp [FD.allB, allB_of cs]
theorem is_name_bad {cs : List Nat} (cl : Nat → Addr) (h : ¬ okW cs) (hl0 : cs.length ≤ 1000) : f_is_name cl [.d (.str (wd cs))] = some (.ret (.d (.bl false)) [.d (.str (wd cs))]) := by
  have hl : (wd cs).length = cs.length := by simp [wd, Str.length]
  have hz2 : cs.length ≤ sizeLine := by have : (1000 : Nat) ≤ sizeLine := by decide
                                        omega
  have hi : oIsi2 (.str (wd cs)) (.raw (.ty "str")) = some (.bl true) := by rfl
  by_cases h1 : 1 ≤ cs.length
  · have hle1 : oLe (.int 1) (.int (cs.length : Nat)) = some (.bl true) := by simp [oLe]; omega
    by_cases h2 : cs.length ≤ 8
    · have hle2 : oLe (.int (cs.length : Nat)) (.int 8) = some (.bl true) := by simp [oLe]; omega
      have hlt : cs.length < sizeLine := by have : (1000 : Nat) < sizeLine := by decide
                                            omega
      have hlc := lcP_mapT (enc := fun c : Nat => D.str ⟨#[c]⟩) (g := gN 1) (f := (pChain oLe oLe (pC (.str "a")) (pVar 1) (pC (.str "z")))) (γ := [.d (.str (wd cs)), .em]) (fun c => .bl ((decide (97 ≤ c) && decide (c ≤ 122)))) cs (fun c hc => ⟨[.d (.str (wd cs)), .d (.str ⟨#[c]⟩)], rfl, by
        by_cases a1 : 97 ≤ c
        · by_cases a2 : c ≤ 122
          · simp [le_a a1, le_z a2, a1, a2]
          · simp [le_a a1, le_z' a2, a1, a2]
        · simp [le_a' a1, a1]⟩)
      have hsg : FD.signs (wd cs) = cs.map fun c : Nat => D.str ⟨#[c]⟩ := by simp [FD.signs, wd]
      have e1 := allB_of (p := fun c => (decide (97 ≤ c) && decide (c ≤ 122))) cs
      have e2 : (cs.map fun c => (decide (97 ≤ c) && decide (c ≤ 122))).all id = false := by
        cases e : (cs.map fun c => (decide (97 ≤ c) && decide (c ≤ 122))).all id with
        | false => rfl
        | true =>
          refine absurd ⟨h1, h2, fun c hc => ?_⟩ h
          have := List.all_eq_true.mp e ((decide (97 ≤ c) && decide (c ≤ 122))) (List.mem_map.mpr ⟨c, hc, rfl⟩)
          simpa using this
      have eA : oAll (.lst (cs.map fun c => D.bl ((decide (97 ≤ c) && decide (c ≤ 122))))) = some (.bl false) := by
        show (FD.allB (cs.map fun c => D.bl (decide (97 ≤ c) && decide (c ≤ 122)))).map _ = _
        rw [e1, Option.map_some, e2]
      simp only [f_is_name, b_is_name]
      simp [hi, hl, hz2, hle1, hle2, walkD, hsg, hlc, hlt, oLen, eA, postP]
    · have hle2 : oLe (.int (cs.length : Nat)) (.int 8) = some (.bl false) := by simp [oLe]; omega
      simp [f_is_name, b_is_name, hi, hl, hz2, hle1, hle2, oLen, postP]
  · have hle1 : oLe (.int 1) (.int (cs.length : Nat)) = some (.bl false) := by simp [oLe]; omega
    simp [f_is_name, b_is_name, hi, hl, hz2, hle1, oLen, postP]
end G01
namespace G01
open PySem PySem.Spec PyProof.Rows L2 FD FD.FD9
end G01
namespace G01
open PySem PySem.Spec PyProof.Rows L2 FD FD.FD9
open TL (joinL numL)
theorem wd_len (cs : List Nat) : (wd cs).length = cs.length := by simp [wd, Str.length]
abbrev cN : List Nat := [110, 117, 109, 98, 101, 114]
abbrev cF : List Nat := [102, 114, 111, 109]
abbrev cA : List Nat := [97, 110, 115, 119, 101, 114, 115]
abbrev cS : List Nat := [115, 117, 98, 106, 101, 99, 116]
theorem map_tl_wd (ps : List (List Nat)) : (ps.map wd).map TL.tl = ps := by
  rw [List.map_map]
  exact List.map_id'' (fun _ => rfl) ps
theorem join_wd (S : List Nat) (ps : List (List Nat)) : Str.join (wd S) (ps.map wd) = wd (joinL S ps) := by
  refine TL.ext_tl ?_
  rw [TL.tl_join, map_tl_wd]
  rfl
theorem nL_map (ps : List (List Nat)) : nL ps = (ps.map wd).map .str := by simp [nL]
theorem split_wd {s : Nat} {ps : List (List Nat)} (hs : s < 256) (hne : ps ≠ []) (hp : ∀ p ∈ ps, s ∉ p) : Txt.split (wd (joinL [s] ps)) (wd [s]) = ps.map wd := by
  have := TL.split_join (y := wd [s]) (s := s) (S := []) rfl (by simp [wd]; exact hs) (parts := ps.map wd) (by simpa using hne) (fun p h => by
    obtain ⟨z, hz, rfl⟩ := List.mem_map.mp h
    exact hp z hz)
  rwa [TL.join_eq, join_wd] at this
theorem oSplit_wd {s : Nat} {ps : List (List Nat)} (hs : s < 256) (hne : ps ≠ []) (hp : ∀ p ∈ ps, s ∉ p) (hl : (joinL [s] ps).length + 2 ≤ sizeLine) : oSplit (.str (wd (joinL [s] ps))) (.str (wd [s])) = some (.lst (nL ps)) := by
  have h1 : ((wd [s]).length == 0) = false := by rw [wd_len]; rfl
  rw [oSplit_s, if_pos ⟨h1, by rw [wd_len]; exact hl⟩, split_wd hs hne hp, nL_map]
theorem cut1_wd (c : Nat) (cs : List Nat) : cutS (wd (c :: cs)) (some 1) none = wd cs := by
  unfold cutS
  simp [wd, HT.sIx, Str.length]
def okM (cs : List Nat) : Prop := 1 ≤ cs.length ∧ cs.length ≤ 31 ∧ cs.head? ≠ some 48 ∧ ∀ c ∈ cs, 48 ≤ c ∧ c ≤ 57
def nt (n : Int) : List Nat := numL n.toNat
end G01
namespace G01
open PySem PySem.Spec PyProof.Rows L2 FD FD.FD9
open TL (joinL numL)
instance (cs : List Nat) : Decidable (okW cs) := by unfold okW; infer_instance
theorem is_name_any (cl : Nat → Addr) {cs : List Nat} (h : cs.length ≤ 1000) : f_is_name cl [.d (.str (wd cs))] = some (.ret (.d (.bl (decide (okW cs)))) [.d (.str (wd cs))]) := by
  by_cases c : okW cs
  · rw [is_name_ok cl c, decide_eq_true c]
  · rw [is_name_bad cl c h, decide_eq_false c]
/-- an item of a head row -/
def itemOk (cs : List Nat) : Prop := okW cs ∨ okM cs
theorem itemOk.len {cs : List Nat} (h : itemOk cs) : 1 ≤ cs.length ∧ cs.length ≤ 31 := h.elim (fun h => ⟨h.1, by have := h.2.1; omega⟩) fun h => ⟨h.1, h.2.1⟩
theorem allD_map : ∀ ds : List D, allD (ds.map .d) = some ds
  | [] => rfl
  | d :: ds => by simp [allD, allD_map ds]
end G01
namespace G01
open PySem PySem.Spec PyProof.Rows L2 FD FD.FD9
open TL (joinL numL)
def ld : Nat → List Nat
  | 0 => cN
  | 1 => cF
  | 2 => cA
  | _ => cS
abbrev J (g : List (List Nat)) : List Nat := joinL [32] g
theorem big : (100000 : Nat) ≤ sizeLine := by decide
end G01
namespace G21
open PySem PySem.Spec PyProof.Rows L2 FD FD.FDW
open G01 (wd wd_inj nL nL_len wd_len cut1_wd oSplit_wd)
open TL (joinL)
abbrev okN (w : List Nat) : Prop := G01.okW w
theorem okN_sp {w : List Nat} (h : okN w) : (32 : Nat) ∉ w := fun z => by have := h.2.2 32 z; omega
theorem okN_S {w : List Nat} (h : okN w) : Enc.okS w := fun c hc => by have := h.2.2 c hc; omega
def isSd : List (List Nat) → Prop
  | [a, b, c] => okN a ∧ b = [97, 116] ∧ okN c
  | _ => False
theorem sender_p (cl : Nat → Addr) {ps : List (List Nat)} (hne : ps ≠ []) (h32 : ∀ p ∈ ps, (32 : Nat) ∉ p) (hl : (joinL [32] ps).length ≤ 100) (hp : ∀ p ∈ ps, p.length ≤ 100) :
    f_is_sender cl [.d (.str (wd (joinL [32] ps)))] = some (.ret (.d (.bl (open Classical in decide (isSd ps)))) [.d (.str (wd (joinL [32] ps)))]) := by
  have hb := big
  have sp : oSplit (.str (wd (joinL [32] ps))) (.str (Str.ofString " ")) = some (.lst (nL ps)) := by
    rw [show Str.ofString " " = wd [32] from by decide]
    exact oSplit_wd (by decide) hne h32 (by omega)
  have i1 : oIsi2 (.str (wd (joinL [32] ps))) (.raw (.ty "str")) = some (.bl true) := rfl
  have le : ∀ n : Nat, oEq (.int (n : Int)) (.int 3) = some (.bl (decide (n = 3))) := fun n => by
    rw [show oEq (.int (n : Int)) (.int 3) = some (.bl (decide ((n : Int) = 3))) from rfl]
    congr 2
    exact decide_eq_decide.mpr (by omega)
  refine Ok.eq ?_
  unfold f_is_sender
  by_cases h3 : ps.length = 3
  · match ps, h3 with
    | [a, b, c], _ =>
      have na := G01.is_name_any cl (cs := a) (by have := hp a (by simp); omega)
      have nc := G01.is_name_any cl (cs := c) (by have := hp c (by simp); omega)
      have eb : oEq (.str (wd b)) (.str (Str.ofString "at")) = some (.bl (decide (b = [97, 116]))) := by
        rw [show Str.ofString "at" = wd [97, 116] from by decide]
        exact eq_S b [97, 116]
      have e3 : (nL [a, b, c]) = [D.str (wd a), .str (wd b), .str (wd c)] := rfl
      rw [e3] at sp
      have l3 : oEq (.int 3) (.int 3) = some (.bl true) := le 3
      generalize joinL [32] [a, b, c] = J at *
      by_cases h1 : okN a
      · rw [decide_eq_true h1] at na
        by_cases h2 : b = [97, 116]
        · subst h2
          rw [decide_eq_true rfl] at eb
          by_cases h4 : okN c
          · rw [decide_eq_true h4] at nc
            simp [-oEq_app, -oSplit_s, b_is_sender, i1, sp, na, nc, eb, isSd, h1, h4, l3]
          · rw [decide_eq_false h4] at nc
            simp [-oEq_app, -oSplit_s, b_is_sender, i1, sp, na, nc, eb, isSd, h1, h4, l3]
        · rw [decide_eq_false h2] at eb
          simp [-oEq_app, -oSplit_s, b_is_sender, i1, sp, na, eb, isSd, h1, h2, l3]
      · rw [decide_eq_false h1] at na
        simp [-oEq_app, -oSplit_s, b_is_sender, i1, sp, na, isSd, h1, l3]
  · have l3 := le ps.length
    rw [decide_eq_false h3] at l3
    have no : ¬ isSd ps := fun z => by
      match ps, h3, z with
      | [a, b, c], h3, _ => exact h3 rfl
    generalize joinL [32] ps = J at *
    simp [-oEq_app, -oSplit_s, b_is_sender, i1, sp, l3, no, nL_len]
theorem sender_no (cl : Nat → Addr) {x : D} (h : oIsi2 x (.raw (.ty "str")) = some (.bl false)) : f_is_sender cl [.d x] = some (.ret (.d (.bl false)) [.d x]) := by
  refine Ok.eq ?_
  unfold f_is_sender
  simp [b_is_sender, h]
def Bad (cl : Nat → Addr) (x : D) : Prop := f_is_sender cl [.d x] = some (.ret (.d (.bl false)) [.d x])
theorem bad_p (cl : Nat → Addr) {ps : List (List Nat)} {t : List Nat} (e : t = joinL [32] ps) (no : ¬ isSd ps) (hne : ps ≠ []) (h32 : ∀ p ∈ ps, (32 : Nat) ∉ p) (hl : t.length ≤ 100) (hp : ∀ p ∈ ps, p.length ≤ 100) : Bad cl (.str (wd t)) := by
  subst e
  have := sender_p cl hne h32 hl hp
  rw [@decide_eq_false _ (Classical.propDecidable _) no] at this
  exact this
theorem none_ok (cl : Nat → Addr) {ds : List D} (h : ∀ d ∈ ds, Bad cl d) (hl : ds.length ≤ 1000) : f_law_none cl [.d (.lst ds)] = some (.ret (.d (.bl true)) [.d (.lst ds)]) := by
  have hb := big
  have hz : ds.length < sizeLine := by omega
  have e : lcP (gN 1) (pTest (pOp oNotB (pCall (f_is_sender cl) (pCons (pVar 1) pNil)) (pC (.bl false)))) (pVar 1) [.d (.lst ds), .em] ds = some [] := by
    have := ok_lcP (enc := fun d : D => d) (g := gN 1) (c := (pTest (pOp oNotB (pCall (f_is_sender cl) (pCons (pVar 1) pNil)) (pC (.bl false))))) (f := pVar 1) (γ := [.d (.lst ds), .em]) (xs := ds) (Q := fun l => l = []) (fun _ => false) (fun d => d) (fun d hd => by
      have b := h d hd
      unfold Bad at b
      simp [b]) (by simp)
    rw [List.map_id'] at this
    exact Ok.eq this
  have q : oEq (.lst []) (.lst []) = some (.bl true) := rfl
  refine Ok.eq ?_
  unfold f_law_none
  simp [-oEq_app, b_law_none, hz, e, q]
theorem repl_at {z : List Nat} : ∀ (x y : List Nat), (32 : Nat) ∉ x → (32 : Nat) ∉ y → StrLaws.replL [32, 97, 116, 32] z (x ++ ([32, 97, 116, 32] ++ y)) = x ++ (z ++ y)
  | [], y, _, hy => by
    rw [List.nil_append, List.nil_append, show ([32, 97, 116, 32] ++ y : List Nat) = 32 :: ([97, 116, 32] ++ y) from rfl, StrLaws.replL_hit (by simp) rfl]
    congr 1
    show StrLaws.replL [32, 97, 116, 32] z y = y
    induction y with
    | nil => exact StrLaws.replL_nil
    | cons c r ih =>
      rw [List.mem_cons, not_or] at hy
      rw [StrLaws.replL_miss (y := [32, 97, 116, 32]) (z := z) (c := c) (r := r) fun e => hy.1 (List.cons.inj (show c :: r.take 3 = 32 :: [97, 116, 32] from e)).1.symm, ih hy.2]
  | c :: x, y, hx, hy => by
    rw [List.mem_cons, not_or] at hx
    have key : ∀ L : List Nat, ¬ (c :: L).take ([32, 97, 116, 32] : List Nat).length = [32, 97, 116, 32] := fun L e => hx.1 (List.cons.inj (show c :: L.take 3 = 32 :: [97, 116, 32] from e)).1.symm
    rw [List.cons_append, StrLaws.replL_miss (key _), repl_at x y hx.2 hy, List.cons_append]
theorem repl_sp : ∀ l : List Nat, StrLaws.replL [32] [] l = l.filter fun c => decide (c ≠ 32)
  | [] => StrLaws.replL_nil
  | c :: l => by
    by_cases h : c = 32
    · subst h
      rw [StrLaws.replL_hit (by simp) rfl]
      show [] ++ StrLaws.replL [32] [] l = _
      rw [repl_sp l]
      simp
    · rw [StrLaws.replL_miss (y := [32]) (z := []) (c := c) (r := l) fun e => h (List.cons.inj (show [c] = [32] from e)).1, repl_sp l]
      simp [h]
theorem str_ext {x : Str} {l : List Nat} (h : x.cps.toList = l) : x = wd l := by
  cases x
  subst h
  simp [wd]
theorem replace_wd {y z l : List Nat} (hy : 1 ≤ y.length) : Txt.replace (wd l) (wd y) (wd z) = wd (StrLaws.replL y z l) := by
  have := StrLaws.replace_list (x := wd l) (y := wd y) (z := wd z) (by rw [wd_len]; exact hy)
  refine str_ext ?_
  rw [this]
  simp [wd]
end G21
namespace G21
open PySem PySem.Spec PyProof.Rows L2 FD FD.FDW
open G01 (wd wd_inj nL nL_len wd_len cut1_wd oSplit_wd)
open TL (joinL)
def sd (x y : List Nat) : List Nat := x ++ ([32, 97, 116, 32] ++ y)
theorem sd_join (x y : List Nat) : sd x y = joinL [32] [x, [97, 116], y] := by simp [sd, joinL]
theorem cut01_wd (s : List Nat) : cutS (wd s) none (some 1) = wd (s.take 1) := by
  unfold cutS
  cases s <;> simp [wd, HT.sIx, Str.length]
theorem cutD_wd (s : List Nat) (h : s ≠ []) : cutS (wd s) (some 1) none = wd (s.drop 1) := by
  cases s with
  | nil => exact absurd rfl h
  | cons c s => exact cut1_wd c s
def bentL (x y : List Nat) : List D := [.str (wd (sd x y ++ [32])), .str (wd (32 :: sd x y)), .str (wd (x ++ ([32, 98, 121, 32] ++ y))), .str (wd (x ++ ([32, 97, 116, 32, 32] ++ y))), .str (wd (sd x y ++ [32, 97, 116, 32, 97])),
  .str (wd ((sd x y).filter fun c => decide (c ≠ 32))), .str (wd ((sd x y).take 1 ++ [49] ++ (sd x y).drop 1)), .str (wd (x ++ ([32, 65, 116, 32] ++ y))), .lst [.str (wd (sd x y))], .tup [.str (wd (sd x y)), .str (wd (sd x y))]]
theorem sd_len {x y : List Nat} (hx : okN x) (hy : okN y) : (sd x y).length ≤ 20 := by
  have := hx.2.1
  have := hy.2.1
  simp [sd]; omega
theorem bent_bad (cl : Nat → Addr) {x y : List Nat} (hx : okN x) (hy : okN y) : ∀ d ∈ bentL x y, Bad cl d := by
  have lx := hx.2.1
  have ly := hy.2.1
  have sx := okN_sp hx
  have sy := okN_sp hy
  have ls := sd_len hx hy
  intro d hd
  simp only [bentL, List.mem_cons, List.not_mem_nil, or_false] at hd
  rcases hd with rfl | rfl | rfl | rfl | rfl | rfl | rfl | rfl | rfl | rfl
  · exact bad_p cl (ps := [x, [97, 116], y, []]) (by simp [sd, joinL]) id (by simp) (by simp [sx, sy]) (by simp; omega) (by simp; omega)
  · exact bad_p cl (ps := [[], x, [97, 116], y]) (by simp [sd, joinL]) id (by simp) (by simp [sx, sy]) (by simp; omega) (by simp; omega)
  · exact bad_p cl (ps := [x, [98, 121], y]) (by simp [sd, joinL]) (fun h => by have := h.2.1; simp at this) (by simp) (by simp [sx, sy]) (by simp; omega) (by simp; omega)
  · exact bad_p cl (ps := [x, [97, 116], [], y]) (by simp [sd, joinL]) id (by simp) (by simp [sx, sy]) (by simp; omega) (by simp; omega)
  · exact bad_p cl (ps := [x, [97, 116], y, [97, 116], [97]]) (by simp [sd, joinL]) id (by simp) (by simp [sx, sy]) (by simp; omega) (by simp; omega)
  · have fx : x.filter (fun c => decide (c ≠ 32)) = x := List.filter_eq_self.mpr fun c hc => decide_eq_true fun e => sx (e ▸ hc)
    have fy : y.filter (fun c => decide (c ≠ 32)) = y := List.filter_eq_self.mpr fun c hc => decide_eq_true fun e => sy (e ▸ hc)
    have e : (sd x y).filter (fun c => decide (c ≠ 32)) = x ++ ([97, 116] ++ y) := by
      rw [sd, List.filter_append, List.filter_append, fx, fy]
      rfl
    rw [e]
    exact bad_p cl (ps := [x ++ ([97, 116] ++ y)]) (by simp [joinL]) id (by simp) (by simp [sx, sy]) (by simp; omega) (by simp; omega)
  · cases x with
    | nil => have := hx.1; simp at this
    | cons c r =>
      have s2 : (32 : Nat) ∉ c :: 49 :: r := by
        rw [List.mem_cons, not_or] at sx
        simp [sx]
      have l2 := lx
      rw [List.length_cons] at l2
      have h32 : ∀ p ∈ ([c :: 49 :: r, [97, 116], y] : List (List Nat)), (32 : Nat) ∉ p := by
        intro p hp
        simp only [List.mem_cons, List.not_mem_nil, or_false] at hp
        rcases hp with rfl | rfl | rfl
        · exact s2
        · simp
        · exact sy
      exact bad_p cl (ps := [c :: 49 :: r, [97, 116], y]) (by simp [sd, joinL]) (fun h => by have := h.1.2.2 49 (by simp); omega) (by simp) h32 (by simp [sd]; omega) (by simp; omega)
  · exact bad_p cl (ps := [x, [65, 116], y]) (by simp [sd, joinL]) (fun h => by have := h.2.1; simp at this) (by simp) (by simp [sx, sy]) (by simp; omega) (by simp; omega)
  · exact sender_no cl rfl
  · exact sender_no cl rfl
theorem bent_ok (cl : Nat → Addr) {x y : List Nat} (hx : okN x) (hy : okN y) : f_law_bent cl [.d (.str (wd (sd x y)))] = some (.ret (.d (.lst (bentL x y))) [.d (.str (wd (sd x y)))]) := by
  have hb := big
  have ls := sd_len hx hy
  have sx := okN_sp hx
  have sy := okN_sp hy
  have q1 : Str.ofString " " = wd [32] := by decide
  have q2 : Str.ofString " at " = wd [32, 97, 116, 32] := by decide
  have q3 : Str.ofString " by " = wd [32, 98, 121, 32] := by decide
  have q4 : Str.ofString " at  " = wd [32, 97, 116, 32, 32] := by decide
  have q5 : Str.ofString " at a" = wd [32, 97, 116, 32, 97] := by decide
  have q6 : Str.ofString "" = wd [] := by decide
  have q7 : Str.ofString "1" = wd [49] := by decide
  have q8 : Str.ofString " At " = wd [32, 65, 116, 32] := by decide
  have rp : ∀ z : List Nat, Txt.replace (wd (sd x y)) (wd [32, 97, 116, 32]) (wd z) = wd (x ++ (z ++ y)) := fun z => by
    rw [replace_wd (by simp), sd, repl_at x y sx sy]
  have r5 : Txt.replace (wd (sd x y)) (wd [32]) (wd []) = wd ((sd x y).filter fun c => decide (c ≠ 32)) := by
    rw [replace_wd (by simp), repl_sp]
  have ad : ∀ a b : List Nat, a.length + b.length ≤ 1000 → oAdd (.str (wd a)) (.str (wd b)) = some (.str (wd (a ++ b))) := fun a b h => by
    rw [oAdd_s, if_pos (by rw [wd_len, wd_len]; omega), G01.str_app]
  have c1 : oSl (.str (wd (sd x y))) none (some 1) = some (.str (wd ((sd x y).take 1))) := by
    show (if (wd (sd x y)).length ≤ sizeLine then some (D.str (cutS (wd (sd x y)) none (some 1))) else none) = _
    rw [if_pos (by rw [wd_len]; omega), cut01_wd]
  have c2 : oSl (.str (wd (sd x y))) (some 1) none = some (.str (wd ((sd x y).drop 1))) := by
    show (if (wd (sd x y)).length ≤ sizeLine then some (D.str (cutS (wd (sd x y)) (some 1) none)) else none) = _
    rw [if_pos (by rw [wd_len]; omega), cutD_wd _ (by simp [sd])]
  have l1 : (wd (sd x y)).length = (sd x y).length := wd_len _
  have m : ∀ z : List Nat, z.length ≤ 10 → (wd (sd x y)).length + ((wd (sd x y)).length + 1) * (wd z).length ≤ 16777216 := fun z hz => by
    rw [wd_len, wd_len]
    have : ((sd x y).length + 1) * z.length ≤ 21 * 10 := Nat.mul_le_mul (by omega) hz
    omega
  have a0 := ad (sd x y) [32] (by simp; omega)
  have a1 := ad [32] (sd x y) (by simp; omega)
  have a4 := ad (sd x y) [32, 97, 116, 32, 97] (by simp; omega)
  have lt : ((sd x y).take 1).length ≤ 20 := by rw [List.length_take]; omega
  have ld : ((sd x y).drop 1).length ≤ 20 := by rw [List.length_drop]; omega
  have a6 := ad ((sd x y).take 1) [49] (by simp; omega)
  have a7 := ad ((sd x y).take 1 ++ [49]) ((sd x y).drop 1) (by rw [List.length_append, List.length_singleton]; omega)
  have m1 := m [32, 98, 121, 32] (by simp)
  have m2 := m [32, 97, 116, 32, 32] (by simp)
  have m3 := m [] (by simp)
  have m4 := m [32, 65, 116, 32] (by simp)
  have p1 := rp [32, 98, 121, 32]
  have p2 := rp [32, 97, 116, 32, 32]
  have p4 := rp [32, 65, 116, 32]
  have z2 : 2 ≤ sizeLine := by omega
  have z5 : 5 ≤ sizeLine := by omega
  have z10 : 10 ≤ sizeLine := by omega
  have z1 : 1 ≤ sizeLine := by omega
  refine Ok.eq ?_
  unfold f_law_bent bentL
  generalize hs : wd (sd x y) = s at *
  simp [-oAdd_s, -List.drop_one, -List.append_assoc, b_law_bent, q1, q2, q3, q4, q5, q6, q7, q8, a0, a1, a4, a6, a7, c1, c2, m1, m2, m3, m4, p1, p2, p4, r5, z1, z2, z5, z10]
end G21
namespace G21
open PySem PySem.Spec PyProof.Rows L2 FD FD.FDW
open G01 (wd wd_inj nL nL_len wd_len)
section
variable {cl : Nat → Addr} {o ss : List (List Nat)} {G : List Gf} {e1 e2 : Asc}
theorem told_mix (R : Rel G o ss e1 e2) (W : Grd o ss) (hl : G.length ≤ 1000) :
    f_law_told cl [tbT cl o e1 e2, .d (.lst (nL o)), .d (.lst (G.map gE.enc)), .d (.lst (nL ss))] = some (.ret (.d (.bl true)) [tbT cl o e1 e2, .d (.lst (nL o)), .d (.lst (G.map gE.enc)), .d (.lst (nL ss))]) := by
  have k := told_body (cl := cl) R W.lo W.oko W.nd hl W.ls W.oks (tb_toD cl o e1 e2) (t2 := .d (.lst (G.map gE.enc))) rfl
  refine Ok.eq ?_
  unfold f_law_told
  rw [ok_fnF, ok_iteN]
  refine ⟨⟨rfl, rfl⟩, ?_⟩
  rw [ok_bind]
  refine k.mono ?_
  rintro q ⟨u4, u5, u6, u7, u8, u9, rfl⟩
  generalize hT : tbT cl o e1 e2 = X
  simp
  rw [← hT]
  simp
theorem Rel.perm {G' : List Gf} (R : Rel G o ss e1 e2) (p : G.Perm G') : Rel G' o ss e1 e2 := ⟨fun g h => R.ok g (p.mem_iff.mpr h), fun s t => (R.h1 s t).trans p.mem_iff, fun s t => (R.h2 s t).trans p.mem_iff, fun s h => (R.k1 s h).imp fun t h => p.mem_iff.mp h, fun s h => (R.k2 s h).imp fun t h => p.mem_iff.mp h, fun g h => R.inO g (p.mem_iff.mpr h), fun g h => R.inS g (p.mem_iff.mpr h), p.length_eq ▸ R.l1, p.length_eq ▸ R.l2, fun s => p.length_eq ▸ R.g1 s, fun s => p.length_eq ▸ R.g2 s⟩
theorem init_l : f_Senders_init cl [.obj (cl 26) [] [], .lst (nL o)] = some (.ret (.d .non) [tbT cl o [] [], .lst (nL o)]) := by
  refine Ok.eq ?_
  unfold f_Senders_init
  have n1 : ¬ Str.ofString "_by_hand" = Str.ofString "_standings" := by decide
  have n2 : ¬ Str.ofString "_by_stamps" = Str.ofString "_standings" := by decide
  have n3 : ¬ Str.ofString "_by_stamps" = Str.ofString "_by_hand" := by decide
  simp [b_Senders_init, putN, putTs, dKs, dTs, n1, n2, n3]
theorem init_t : f_Senders_init cl [.obj (cl 26) [] [], .d (.tup (nL o))] = some (.ret (.d .non) [tbT cl o [] [], .d (.tup (nL o))]) := by
  refine Ok.eq ?_
  unfold f_Senders_init
  have n1 : ¬ Str.ofString "_by_hand" = Str.ofString "_standings" := by decide
  have n2 : ¬ Str.ofString "_by_stamps" = Str.ofString "_standings" := by decide
  have n3 : ¬ Str.ofString "_by_stamps" = Str.ofString "_by_hand" := by decide
  simp [b_Senders_init, putN, putTs, dKs, dTs, n1, n2, n3]
end
abbrev En (t0 t1 t2 t3 t4 t5 t6 t7 t8 t9 t10 t11 t12 : T) : List T := [t0, t1, t2, t3, t4, t5, t6, t7, t8, t9, t10, t11, t12]
theorem cut_nL (ws : List (List Nat)) (k : Nat) : FD.cutD (nL ws) none (some (k : Int)) = nL (ws.take k) := by
  unfold FD.cutD nL
  rw [List.length_map]
  have h1 : HT.sIx ws.length 0 none = 0 := rfl
  have h2 : HT.sIx ws.length ws.length (some (k : Int)) = min k ws.length := by
    simp [HT.sIx]
    intro h
    omega
  rw [h1, h2, List.drop_zero, Nat.sub_zero, ← List.map_take]
  congr 1
  by_cases h : k ≤ ws.length
  · rw [Nat.min_eq_left h]
  · rw [Nat.min_eq_right (by omega), List.take_of_length_le (Nat.le_refl _), List.take_of_length_le (by omega)]
end G21
namespace G21
open PySem PySem.Spec PyProof.Rows L2 FD FD.FDW
open G01 (wd wd_inj nL nL_len wd_len)
structure Wds (a b c d e : List Nat) : Prop where
  ok : ∀ w ∈ [a, b, c, d, e], okN w
  nd : [a, b, c, d, e].Nodup
abbrev sds (a b c : List Nat) : List (List Nat) := [sd a b, sd a c, sd b b, sd b c]
theorem sd_inj {x y x' y' : List Nat} (hx : okN x) (hx' : okN x') (h : sd x y = sd x' y') : x = x' ∧ y = y' := by
  have key : ∀ (x x' r r' : List Nat), (32 : Nat) ∉ x → (32 : Nat) ∉ x' → x ++ 32 :: r = x' ++ 32 :: r' → x = x' ∧ r = r' := by
    intro x
    induction x with
    | nil =>
      intro x' r r' _ h' e
      cases x' with
      | nil => simpa using e
      | cons c x' =>
        rw [List.nil_append, List.cons_append] at e
        exact absurd (by rw [(List.cons.inj e).1]; simp) h'
    | cons c x ih =>
      intro x' r r' h h' e
      cases x' with
      | nil =>
        rw [List.nil_append, List.cons_append] at e
        exact absurd (by rw [(List.cons.inj e).1]; simp) h
      | cons c' x' =>
        rw [List.cons_append, List.cons_append] at e
        rw [List.mem_cons, not_or] at h h'
        have := ih x' r r' h.2 h'.2 (List.cons.inj e).2
        exact ⟨by rw [(List.cons.inj e).1, this.1], this.2⟩
  have := key x x' ([97, 116, 32] ++ y) ([97, 116, 32] ++ y') (okN_sp hx) (okN_sp hx') (by unfold sd at h; exact h)
  exact ⟨this.1, by simpa using this.2⟩
theorem Wds.grd {a b c d e : List Nat} (w : Wds a b c d e) {o : List (List Nat)} (ho : ∀ t ∈ o, okN t) (hl : o.length ≤ 2) : Grd o (sds a b c) := by
  have oa := w.ok a (by simp)
  have ob := w.ok b (by simp)
  have oc := w.ok c (by simp)
  have nd := w.nd
  simp only [List.nodup_cons, List.mem_cons, List.not_mem_nil, or_false, not_or] at nd
  have nab : a ≠ b := nd.1.1
  have nbc : b ≠ c := nd.2.1.1
  refine ⟨by omega, fun t h => okN_S (ho t h), ?_, by simp, fun s hs => ?_⟩
  · simp only [List.nodup_cons, List.mem_cons, List.not_mem_nil, or_false, not_or, List.nodup_nil, and_true, not_false_iff]
    refine ⟨⟨fun h => nbc (sd_inj oa oa h).2, fun h => nab (sd_inj oa ob h).1, fun h => nab (sd_inj oa ob h).1⟩, ⟨fun h => nab (sd_inj oa ob h).1, fun h => nab (sd_inj oa ob h).1⟩, fun h => nbc (sd_inj ob ob h).2⟩
  · have key : ∀ x y, okN x → okN y → Enc.okS (sd x y) := fun x y hx hy c hc => by
      unfold sd at hc
      rcases List.mem_append.mp hc with h | h
      · exact okN_S hx c h
      · rcases List.mem_append.mp h with h | h
        · simp at h; omega
        · exact okN_S hy c h
    simp only [List.mem_cons, List.not_mem_nil, or_false] at hs
    rcases hs with rfl | rfl | rfl | rfl
    · exact key _ _ oa ob
    · exact key _ _ oa oc
    · exact key _ _ ob ob
    · exact key _ _ ob oc
section
variable {cl : Nat → Addr} {a b c d e : List Nat}
/-- the order that is drawn -/
def OrdP (a b : List Nat) (o : List (List Nat)) : Prop := o = [a] ∨ o = [a, b] ∨ o = [b, a]
theorem OrdP.ok {o : List (List Nat)} (h : OrdP a b o) (w : Wds a b c d e) : (∀ t ∈ o, okN t) ∧ o.length ≤ 2 ∧ o ≠ [] := by
  have oa := w.ok a (by simp)
  have ob := w.ok b (by simp)
  rcases h with rfl | rfl | rfl <;> simp [oa, ob]
theorem b23 {s : Bg} (hs : okB s) {t0 t1 t4 t5 t6 t7 t8 t9 t10 t11 t12 : T} : Ok (sSeq (law_0b2 cl) (law_0b3 cl) (En t0 t1 (bt s) (.d (.lst (nL [a, b, c, d, e]))) t4 t5 t6 t7 t8 t9 t10 t11 t12)) fun q => ∃ s' o, okB s' ∧ OrdP a b o ∧ q = .nx (En t0 t1 (bt s') (.d (.lst (nL [a, b, c, d, e]))) (.d (.lst (nL o))) (.d (.lst [])) (.lst []) t7 t8 t9 t10 t11 t12) := by
  obtain ⟨k, s1, k1, o1, e1⟩ := takeN cl (n := 2) hs (by decide) (by decide)
  obtain ⟨j, s2, j1, o2, e2⟩ := takeN cl (n := 2) o1 (by decide) (by decide)
  have hc : FD.cutD (nL [a, b, c, d, e]) none (some (1 + (k : Int))) = nL ([a, b, c, d, e].take (1 + k)) := by
    rw [← cut_nL]
    congr 2
  have hs2 : oSl (.lst (nL [a, b, c, d, e])) none (some (1 + (k : Int))) = some (.lst (nL ([a, b, c, d, e].take (1 + k)))) := by rw [oSl_l, hc]
  have ho : OrdP a b ([a, b, c, d, e].take (1 + k)) ∧ OrdP a b ([a, b, c, d, e].take (1 + k)).reverse := by
    have : k = 0 ∨ k = 1 := by omega
    rcases this with rfl | rfl
    · exact ⟨.inl rfl, .inl rfl⟩
    · exact ⟨.inr (.inl rfl), .inr (.inr rfl)⟩
  generalize hN : nL [a, b, c, d, e] = N at *
  generalize ([a, b, c, d, e].take (1 + k)) = o at *
  have a0 : law_0b2 cl (En t0 t1 (bt s) (.d (.lst N)) t4 t5 t6 t7 t8 t9 t10 t11 t12) = some (.nx (En t0 t1 (bt s1) (.d (.lst N)) (.d (.lst (nL o))) (.d (.lst [])) (.lst []) t7 t8 t9 t10 t11 t12)) :=
    Ok.eq (by simp [-oSl_l, law_0b2, e1, hs2])
  refine ok_seq a0 ?_
  have rv : (nL o).reverse = nL o.reverse := by simp [nL]
  have hj : j = 0 ∨ j = 1 := by omega
  rcases hj with rfl | rfl
  · refine Ok.of (a := .nx (En t0 t1 (bt s2) (.d (.lst N)) (.d (.lst (nL o))) (.d (.lst [])) (.lst []) t7 t8 t9 t10 t11 t12)) (Ok.eq (by simp [law_0b3, e2])) ⟨s2, o, o2, ho.1, rfl⟩
  · refine Ok.of (a := .nx (En t0 t1 (bt s2) (.d (.lst N)) (.d (.lst (nL o.reverse))) (.d (.lst [])) (.lst []) t7 t8 t9 t10 t11 t12)) (Ok.eq (by simp [law_0b3, e2, rv])) ⟨s2, _, o2, ho.2, rfl⟩
theorem b4 (w : Wds a b c d e) {t0 t1 t2 t4 t6 t7 t8 t9 t10 t11 t12 : T} : Ok (law_0b4 cl (En t0 t1 t2 (.d (.lst (nL [a, b, c, d, e]))) t4 (.d (.lst [])) t6 t7 t8 t9 t10 t11 t12)) fun q => ∃ u7, dE u7 ∧ q = .nx (En t0 t1 t2 (.d (.lst (nL [a, b, c, d, e]))) t4 (.d (.lst (nL (sds a b c)))) t6 u7 t8 t9 t10 t11 t12) := by
  have hb := big
  have oa := (w.ok a (by simp)).2.1
  have ob := (w.ok b (by simp)).2.1
  have oc := (w.ok c (by simp)).2.1
  have q : Str.ofString " at " = wd [32, 97, 116, 32] := by decide
  have hc : FD.cutD (nL [a, b, c, d, e]) none (some 2) = nL [a, b] := cut_nL [a, b, c, d, e] 2
  have ad : ∀ a b : List Nat, a.length + b.length ≤ 1000 → oAdd (.str (wd a)) (.str (wd b)) = some (.str (wd (a ++ b))) := fun a b h => by
    rw [oAdd_s, if_pos (by rw [wd_len, wd_len]; omega), G01.str_app]
  have one : ∀ (x : List Nat), x.length ≤ 8 → ∀ (y : List Nat), y.length ≤ 8 → oAdd (.str (wd x)) (.str (wd [32, 97, 116, 32])) = some (.str (wd (x ++ [32, 97, 116, 32]))) ∧ oAdd (.str (wd (x ++ [32, 97, 116, 32]))) (.str (wd y)) = some (.str (wd (sd x y))) := fun x hx y hy => by
    refine ⟨ad _ _ (by simp; omega), ?_⟩
    rw [ad _ _ (by simp; omega), List.append_assoc]
    rfl
  have turn : ∀ (x : List Nat) (L : List D) (t7 : T), x.length ≤ 8 → L.length ≤ 10 → law_0b4b cl (En t0 t1 t2 (.d (.lst (nL [a, b, c, d, e]))) t4 (.d (.lst L)) t6 (.d (.str (wd x))) t8 t9 t10 t11 t12) = some (.nx (En t0 t1 t2 (.d (.lst (nL [a, b, c, d, e]))) t4 (.d (.lst (L ++ [.str (wd (sd x b)), .str (wd (sd x c))]))) t6 (.d (.str (wd x))) t8 t9 t10 t11 t12)) := fun x L t7 hx hL => by
    have z2 : 2 ≤ sizeLine := by omega
    have z3 : L.length + 2 ≤ sizeLine := by omega
    have p1 := one x hx b ob
    have p2 := one x hx c oc
    exact Ok.eq (by simp [-oAdd_s, law_0b4b, q, nL, p1.1, p1.2, p2.2, z2, z3])
  have z2 : 2 < sizeLine := by omega
  have ex : ∀ t7 : T, law_0b4 cl (En t0 t1 t2 (.d (.lst (nL [a, b, c, d, e]))) t4 (.d (.lst [])) t6 t7 t8 t9 t10 t11 t12) = some (.nx (En t0 t1 t2 (.d (.lst (nL [a, b, c, d, e]))) t4 (.d (.lst (nL (sds a b c)))) t6 (.d (.str (wd b))) t8 t9 t10 t11 t12)) := fun t7 => by
    have f1 := turn a [] t7 oa (by simp)
    have f2 := turn b [.str (wd (sd a b)), .str (wd (sd a c))] t7 ob (by simp)
    unfold law_0b4
    generalize law_0b4b cl = B at *
    generalize hN : nL [a, b, c, d, e] = N at *
    have g : ∀ (x : List Nat) (γ : List T), gN 7 (D.str (wd x)) γ = some (γ.set 7 (.d (.str (wd x)))) := fun _ _ => rfl
    have fs : forS (gN 7) B (nL [a, b]) (En t0 t1 t2 (.d (.lst N)) t4 (.d (.lst [])) t6 t7 t8 t9 t10 t11 t12) = some (.nx (En t0 t1 t2 (.d (.lst N)) t4 (.d (.lst (nL (sds a b c)))) t6 (.d (.str (wd b))) t8 t9 t10 t11 t12)) := by
      rw [show nL [a, b] = [D.str (wd a), .str (wd b)] from rfl]
      unfold forS
      rw [g, Option.bind_some, show (En t0 t1 t2 (.d (.lst N)) t4 (.d (.lst [])) t6 t7 t8 t9 t10 t11 t12).set 7 (.d (.str (wd a))) = En t0 t1 t2 (.d (.lst N)) t4 (.d (.lst [])) t6 (.d (.str (wd a))) t8 t9 t10 t11 t12 from rfl, f1, Option.bind_some]
      simp only
      unfold forS
      rw [g, Option.bind_some, show (En t0 t1 t2 (.d (.lst N)) t4 (.d (.lst ([] ++ [.str (wd (sd a b)), .str (wd (sd a c))]))) t6 (.d (.str (wd a))) t8 t9 t10 t11 t12).set 7 (.d (.str (wd b))) = En t0 t1 t2 (.d (.lst N)) t4 (.d (.lst [.str (wd (sd a b)), .str (wd (sd a c))])) t6 (.d (.str (wd b))) t8 t9 t10 t11 t12 from rfl, f2, Option.bind_some]
      rfl
    refine Ok.eq ?_
    simp [hc, nL_len, z2, fs]
  exact Ok.of (ex t7) ⟨_, .inr ⟨_, rfl⟩, rfl⟩
end
end G21
namespace G21
open PySem PySem.Spec PyProof.Rows L2 FD FD.FDW
open G01 (wd wd_inj nL nL_len wd_len)
section
variable {cl : Nat → Addr} {o ss : List (List Nat)}
theorem ofW (cl : Nat → Addr) {s : Bg} {ws : List (List Nat)} (h : okB s) (h0 : ws ≠ []) (h1 : ws.length ≤ 1000) : ∃ (w : List Nat) (s' : Bg), w ∈ ws ∧ okB s' ∧ f_law_of cl [bt s, .d (.lst (nL ws))] = some (.ret (.d (.str (wd w))) [bt s', .d (.lst (nL ws))]) := by
  obtain ⟨i, s', hi, o1, e⟩ := ofN cl (ds := nL ws) h (by cases ws with
    | nil => exact absurd rfl h0
    | cons w ws => simp [nL]) (by rw [nL_len]; exact h1)
  have hi' : i < ws.length := by rw [nL_len] at hi; exact hi
  refine ⟨ws[i], s', List.getElem_mem hi', o1, ?_⟩
  rw [e]
  congr 3
  simp [nL]
/-- the rows drawn so far -/
def RwP (o ss : List (List Nat)) (i : Nat) (rs : List Gf) : Prop := (∀ g ∈ rs, gE.ok g) ∧ (∀ g ∈ rs, g.2.1 ∈ o) ∧ (∀ g ∈ rs, g.1 ∈ ss) ∧ rs.length ≤ i
def RwI (o ss : List (List Nat)) (t0 t1 t3 t7 t9 t10 t11 t12 : T) (i : Nat) (γ : List T) : Prop := ∃ s rs u8, okB s ∧ RwP o ss i rs ∧ γ = En t0 t1 (bt s) t3 (.d (.lst (nL o))) (.d (.lst (nL ss))) (.lst (rs.map gE.enc)) t7 u8 t9 t10 t11 t12
theorem b5 (W : Grd o ss) (h0 : o ≠ []) (h1 : ss ≠ []) {s : Bg} (hs : okB s) {t0 t1 t3 t7 t8 t9 t10 t11 t12 : T} : Ok (law_0b5 cl (En t0 t1 (bt s) t3 (.d (.lst (nL o))) (.d (.lst (nL ss))) (.lst []) t7 t8 t9 t10 t11 t12)) fun q => ∃ γ, RwI o ss t0 t1 t3 t7 t9 t10 t11 t12 25 γ ∧ q = .nx γ := by
  have hb := big
  obtain ⟨k, s1, k1, o1, e1⟩ := takeN cl (n := 25) hs (by decide) (by decide)
  have hr1 : -4611686018427387904 ≤ (k : Int) ∧ (k : Int) < 4611686018427387904 := by omega
  have loop : Ok (forS (gN 8) (law_0b5b cl) (intsD 0 k) (En t0 t1 (bt s1) t3 (.d (.lst (nL o))) (.d (.lst (nL ss))) (.lst []) t7 t8 t9 t10 t11 t12)) fun q => ∃ γ, RwI o ss t0 t1 t3 t7 t9 t10 t11 t12 25 γ ∧ q = .nx γ := by
    unfold intsD
    refine ok_for (fun i γ => RwI o ss t0 t1 t3 t7 t9 t10 t11 t12 i γ) ⟨s1, [], t8, o1, ⟨by simp, by simp, by simp, by simp⟩, rfl⟩ ?_ ?_
    · rintro i hi γ ⟨s2, rs, u8, o2, hR, rfl⟩
      rw [List.length_range] at hi
      rw [ok_gN, ok_some]
      obtain ⟨sw, s3, m3, o3, e3⟩ := ofW cl (ws := ss) o2 h1 W.ls
      obtain ⟨ow, s4, m4, o4, e4⟩ := ofW cl (ws := o) o3 h0 W.lo
      obtain ⟨j, s5, j5, o5, e5⟩ := takeN cl (n := 2) o4 (by decide) (by decide)
      have z3 : 3 ≤ sizeLine := by omega
      have hj : oEq (.int (j : Int)) (.int 1) = some (.bl (decide (j = 1))) := by
        rw [show oEq (.int (j : Int)) (.int 1) = some (.bl (decide ((j : Int) = 1))) from rfl]
        congr 2
        exact decide_eq_decide.mpr (by omega)
      have hz : (rs.map gE.enc).length < sizeLine := by rw [List.length_map]; have := hR.2.2.2; omega
      have ap : rs.map gE.enc ++ [D.tup [.str (wd sw), .str (wd ow), .bl (decide (j = 1))]] = (rs ++ [(sw, ow, decide (j = 1))]).map gE.enc := by rw [List.map_append]; rfl
      have a0 : law_0b5b cl (En t0 t1 (bt s2) t3 (.d (.lst (nL o))) (.d (.lst (nL ss))) (.lst (rs.map gE.enc)) t7 (.d (.int (0 + ((List.range k)[i] : Nat)))) t9 t10 t11 t12) = some (.nx (En t0 t1 (bt s5) t3 (.d (.lst (nL o))) (.d (.lst (nL ss))) (.lst ((rs ++ [(sw, ow, decide (j = 1))]).map gE.enc)) t7 (.d (.int (0 + ((List.range k)[i] : Nat)))) t9 t10 t11 t12)) := by
        rw [← ap]
        generalize rs.map gE.enc = L at *
        exact Ok.eq (by simp [-oEq_app, law_0b5b, e3, e4, e5, z3, hj, hz])
      refine Ok.of a0 ⟨s5, _, _, o5, ⟨?_, ?_, ?_, ?_⟩, rfl⟩
      · intro g hg
        rcases List.mem_append.mp hg with h | h
        · exact hR.1 g h
        · rw [List.mem_singleton.mp h]; exact ⟨W.oks _ m3, W.oko _ m4, trivial⟩
      · intro g hg
        rcases List.mem_append.mp hg with h | h
        · exact hR.2.1 g h
        · rw [List.mem_singleton.mp h]; exact m4
      · intro g hg
        rcases List.mem_append.mp hg with h | h
        · exact hR.2.2.1 g h
        · rw [List.mem_singleton.mp h]; exact m3
      · rw [List.length_append]; simp; exact hR.2.2.2
    · rintro γ ⟨s2, rs, u8, o2, hR, rfl⟩
      rw [List.length_range] at hR
      exact ⟨_, ⟨s2, rs, u8, o2, ⟨hR.1, hR.2.1, hR.2.2.1, by have := hR.2.2.2; omega⟩, rfl⟩, rfl⟩
  unfold law_0b5
  generalize law_0b5b cl = B at *
  simp [e1, hr1]
  exact loop
theorem b678 (ho : o.length ≤ 1000) {t0 t1 t2 t3 t5 t6 t7 t8 t9 t10 t11 t12 : T} {Q : O → Prop} {f : List T → Option O} (h : Ok (f (En t0 t1 t2 t3 (.d (.lst (nL o))) t5 t6 t7 t8 (.lst (nL o).reverse) (tbT cl o [] []) (tbT cl o [] []) t12)) Q) : Ok (sSeq (law_0b6 cl) (sSeq (law_0b7 cl) (sSeq (law_0b8 cl) f)) (En t0 t1 t2 t3 (.d (.lst (nL o))) t5 t6 t7 t8 t9 t10 t11 t12)) Q := by
  have hb := big
  have hz : (nL o).length ≤ sizeLine := by rw [nL_len]; omega
  have i1 := init_l (cl := cl) (o := o)
  have i2 := init_t (cl := cl) (o := o)
  generalize hN : nL o = N at *
  refine ok_seq (γ' := En t0 t1 t2 t3 (.d (.lst N)) t5 t6 t7 t8 (.lst N) t10 t11 t12) (Ok.eq (by simp [law_0b6])) ?_
  refine ok_seq (γ' := En t0 t1 t2 t3 (.d (.lst N)) t5 t6 t7 t8 (.lst N) (tbT cl o [] []) (tbT cl o [] []) t12) (Ok.eq ?_) ?_
  · simp [law_0b7, makeF, weave, holes, i1, i2]
  · exact ok_seq (γ' := En t0 t1 t2 t3 (.d (.lst N)) t5 t6 t7 t8 (.lst N.reverse) (tbT cl o [] []) (tbT cl o [] []) t12) (Ok.eq (by simp [law_0b8])) h
end
end G21
namespace G21
open PySem PySem.Spec PyProof.Rows L2 FD FD.FDW
open G01 (wd wd_inj nL nL_len wd_len)
section
variable {cl : Nat → Addr} {o ss : List (List Nat)}
theorem tbs_toDs (o : List (List Nat)) (e1 e2 : Asc) : T.toDs [.d (tN o), dicT e1, dicT e2] = some [tN o, dicD e1, dicD e2] := by
  rw [T.toDs, T.toDs, T.toDs, T.toDs, dic_toD, dic_toD]
  simp [T.toD]
theorem tb_ex (cl : Nat → Addr) (o : List (List Nat)) (e1 e2 : Asc) : ∃ A C, tbT cl o e1 e2 = .obj (cl 26) fl A ∧ tbD cl o e1 e2 = .ins (cl 26) fl C ∧ T.toDs A = some C := ⟨_, _, rfl, rfl, tbs_toDs o e1 e2⟩
theorem RwP.rows {i : Nat} {rs : List Gf} (h : RwP o ss i rs) (hi : i ≤ 100) : Rows rs o ss := ⟨h.1, h.2.1, h.2.2.1, by have := h.2.2.2; omega⟩
theorem Rows.rev {rs : List Gf} (h : Rows rs o ss) : Rows rs.reverse o ss := ⟨fun g z => h.ok g (List.mem_reverse.mp z), fun g z => h.inO g (List.mem_reverse.mp z), fun g z => h.inS g (List.mem_reverse.mp z), by rw [List.length_reverse]; exact h.len⟩
theorem b9 (W : Grd o ss) {rs : List Gf} (hr : Rows rs o ss) {t0 t1 t2 t3 t7 t8 t9 t12 : T} : ∃ e1 e2, Rel rs o ss e1 e2 ∧ law_0b9 cl (En t0 t1 t2 t3 (.d (.lst (nL o))) (.d (.lst (nL ss))) (.lst (rs.map gE.enc)) t7 t8 t9 (tbT cl o [] []) (tbT cl o [] []) t12) = some (.nx (En t0 t1 t2 t3 (.d (.lst (nL o))) (.d (.lst (nL ss))) (.d (.lst (rs.map gE.enc))) t7 t8 t9 (tbT cl o e1 e2) (tbT cl o [] []) t12)) := by
  obtain ⟨q, eq, e1, e2, R, rfl⟩ := filled_ok (cl := cl) W hr (t2 := .lst (rs.map gE.enc)) (.inl rfl)
  have td := told_data (cl := cl) (Rel.nil (o := o) (ss := ss)) W.lo W.oko W.nd (by simp) W.ls W.oks
  refine ⟨e1, e2, R, ?_⟩
  rw [show List.map gE.enc [] = [] from rfl] at td
  generalize rs.map gE.enc = L at *
  obtain ⟨A, C, hA, hC, hts⟩ := tb_ex cl o [] []
  obtain ⟨A', C', hA', _, _⟩ := tb_ex cl o e1 e2
  rw [hA, hA'] at eq
  rw [hC] at td
  rw [hA, hA']
  generalize nL o = N1 at *
  generalize nL ss = N2 at *
  exact Ok.eq (by simp [law_0b9, eq, hts, td])
theorem b10 (W : Grd o ss) {rs : List Gf} (hr : Rows rs o ss) {t0 t1 t2 t3 t7 t8 t9 t10 t12 : T} : ∃ e1 e2, Rel rs o ss e1 e2 ∧ law_0b10 cl (En t0 t1 t2 t3 (.d (.lst (nL o))) (.d (.lst (nL ss))) (.d (.lst (rs.map gE.enc))) t7 t8 t9 t10 (tbT cl o [] []) t12) = some (.nx (En t0 t1 t2 t3 (.d (.lst (nL o))) (.d (.lst (nL ss))) (.d (.lst (rs.map gE.enc))) t7 t8 t9 t10 (tbT cl o e1 e2) t12)) := by
  obtain ⟨q, eq, e1, e2, R, rfl⟩ := filled_ok (cl := cl) W hr.rev (t2 := .d (.lst (rs.reverse.map gE.enc))) (.inr rfl)
  refine ⟨e1, e2, R.perm (List.reverse_perm rs), ?_⟩
  rw [List.map_reverse] at eq
  generalize rs.map gE.enc = L at *
  obtain ⟨A, C, hA, hC, hts⟩ := tb_ex cl o [] []
  obtain ⟨A', C', hA', _, _⟩ := tb_ex cl o e1 e2
  rw [hA, hA'] at eq
  rw [hA, hA']
  generalize nL o = N1 at *
  generalize nL ss = N2 at *
  exact Ok.eq (by simp [law_0b10, eq])
theorem tls_nL : ∀ ws : List (List Nat), D.tls (nL ws) = true
  | [] => rfl
  | w :: ws => by
    show D.tls (D.str (wd w) :: nL ws) = true
    rw [tls_cons, tls_nL ws]
    rfl
theorem b1112 {rs : List Gf} (hr : Rows rs o ss) {e1 e2 : Asc} (R : Rel rs o ss e1 e2) {t0 t1 t2 t3 t4 t5 t6 t7 t8 t9 t11 t12 : T} {Q : O → Prop} {f : List T → Option O} (h : ∀ u12, Ok (f (En t0 t1 t2 t3 t4 t5 t6 t7 t8 t9 (tbT cl o e1 e2) t11 u12)) Q) : Ok (sSeq (law_0b11 cl) (sSeq (law_0b12 cl) f) (En t0 t1 t2 t3 t4 t5 t6 t7 t8 t9 (tbT cl o e1 e2) t11 t12)) Q := by
  have hb := big
  have b1 := R.l1
  have b2 := R.l2
  have b3 := hr.len
  have nm := names_ok cl (o := o) (e1 := e1) (e2 := e2) (by omega)
  have tl := tls_nL (allS e1 e2)
  have hlen : (nL (allS e1 e2)).length < sizeLine := by
    have h1 : (allS e1 e2).length ≤ e1.length + e2.length := by
      unfold allS
      rw [Enc.sort_len]
      refine Nat.le_trans (metK_len _) ?_
      simp
    rw [nL_len]
    omega
  generalize nL (allS e1 e2) = L at *
  obtain ⟨A, C, hA, hC, hts⟩ := tb_ex cl o e1 e2
  rw [hC] at nm
  simp only [hA] at h ⊢
  refine ok_seq (γ' := En t0 t1 t2 t3 t4 t5 t6 t7 t8 t9 (.obj (cl 26) fl A) t11 (.lst L)) (Ok.eq (by simp [law_0b11, hts, nm, tl])) ?_
  refine ok_seq (γ' := En t0 t1 t2 t3 t4 t5 t6 t7 t8 t9 (.obj (cl 26) fl A) t11 (.lst (L ++ [.str (Str.ofString "zz")]))) (Ok.eq (by simp [law_0b12, hlen])) (h _)
theorem b13 (W : Grd o ss) {rs : List Gf} (hr : Rows rs o ss) {e1 e2 f1 f2 : Asc} (R : Rel rs o ss e1 e2) (R2 : Rel rs o ss f1 f2) {t0 t1 t2 t3 t7 t8 t9 t12 : T} : law_0b13 cl (En t0 t1 t2 t3 (.d (.lst (nL o))) (.d (.lst (nL ss))) (.d (.lst (rs.map gE.enc))) t7 t8 t9 (tbT cl o e1 e2) (tbT cl o f1 f2) t12) = some (.nx (En t0 t1 t2 t3 (.d (.lst (nL o))) (.d (.lst (nL ss))) (.d (.lst (rs.map gE.enc))) t7 t8 t9 (tbT cl o e1 e2) (tbT cl o f1 f2) t12)) := by
  have td1 := told_mix (cl := cl) R W (by have := hr.len; omega)
  have td2 := told_mix (cl := cl) R2 W (by have := hr.len; omega)
  obtain ⟨A, C, hA, hC, hts⟩ := tb_ex cl o e1 e2
  obtain ⟨A', C', hA', _, _⟩ := tb_ex cl o f1 f2
  rw [hA] at td1
  rw [hA'] at td2
  rw [hA, hA']
  generalize nL o = N1 at *
  generalize nL ss = N2 at *
  generalize rs.map gE.enc = L at *
  exact Ok.eq (by simp [law_0b13, td1, td2])
end
section
variable {cl : Nat → Addr} {a b c d e : List Nat}
theorem good_sd {x y : List Nat} (hx : okN x) (hy : okN y) : f_is_sender cl [.d (.str (wd (sd x y)))] = some (.ret (.d (.bl true)) [.d (.str (wd (sd x y)))]) := by
  have lx := hx.2.1
  have ly := hy.2.1
  have sx := okN_sp hx
  have sy := okN_sp hy
  have ls := sd_len hx hy
  have := sender_p cl (ps := [x, [97, 116], y]) (by simp) (by simp [sx, sy]) (by rw [← sd_join]; omega) (by simp; omega)
  rw [← sd_join, @decide_eq_true _ (Classical.propDecidable _) (show isSd [x, [97, 116], y] from ⟨hx, rfl, hy⟩)] at this
  exact this
theorem b14 (w : Wds a b c d e) {t0 t1 t2 t3 t4 t6 t7 t8 t9 t10 t11 t12 : T} (h7 : dE t7) : law_0b14 cl (En t0 t1 t2 t3 t4 (.d (.lst (nL (sds a b c)))) t6 t7 t8 t9 t10 t11 t12) = some (.nx (En t0 t1 t2 t3 t4 (.d (.lst (nL (sds a b c)))) t6 t7 t8 t9 t10 t11 t12)) := by
  have hb := big
  have oa := w.ok a (by simp)
  have ob := w.ok b (by simp)
  have oc := w.ok c (by simp)
  have e : lcP (gN 7) (bOr (pTest (pOp oNotB (pCall (f_is_sender cl) (pCons (pVar 7) pNil)) (pC (.bl true)))) (bNot (pTest (pCall (f_law_none cl) (pCons (pCall (f_law_bent cl) (pCons (pVar 7) pNil)) pNil))))) (pVar 7) (En t0 t1 t2 t3 t4 (.d (.lst (nL (sds a b c)))) t6 .em t8 t9 t10 t11 t12) (nL (sds a b c)) = some [] := by
    have one : ∀ s ∈ sds a b c, ∃ x y, okN x ∧ okN y ∧ s = sd x y := by
      intro s hs
      simp only [List.mem_cons, List.not_mem_nil, or_false] at hs
      rcases hs with rfl | rfl | rfl | rfl
      · exact ⟨_, _, oa, ob, rfl⟩
      · exact ⟨_, _, oa, oc, rfl⟩
      · exact ⟨_, _, ob, ob, rfl⟩
      · exact ⟨_, _, ob, oc, rfl⟩
    generalize hS : sds a b c = S at *
    have := ok_lcP (enc := fun w => D.str (wd w)) (g := gN 7) (c := (bOr (pTest (pOp oNotB (pCall (f_is_sender cl) (pCons (pVar 7) pNil)) (pC (.bl true)))) (bNot (pTest (pCall (f_law_none cl) (pCons (pCall (f_law_bent cl) (pCons (pVar 7) pNil)) pNil)))))) (f := pVar 7) (γ := En t0 t1 t2 t3 t4 (.d (.lst (nL S))) t6 .em t8 t9 t10 t11 t12) (xs := S) (Q := fun l => l = []) (fun _ => false) (fun w => D.str (wd w)) (fun s hs => by
      obtain ⟨x, y, hx, hy, rfl⟩ := one s hs
      have g1 := good_sd (cl := cl) hx hy
      have g2 := bent_ok cl hx hy
      have g3 := none_ok cl (bent_bad cl hx hy) (by simp [bentL])
      generalize bentL x y = L at *
      simp [g1, g2, g3]) (by simp)
    exact Ok.eq this
  have hz : (nL (sds a b c)).length < sizeLine := by rw [nL_len]; simp; omega
  have q : oNe (.lst []) (.lst []) = some (.bl false) := rfl
  generalize nL (sds a b c) = L at *
  rcases h7 with rfl | ⟨x, rfl⟩ <;> exact Ok.eq (by simp [-oNe_app, law_0b14, hz, e, q])
end
end G21
namespace G21
open PySem PySem.Spec PyProof.Rows L2 FD FD.FDW
open G01 (wd wd_inj nL nL_len wd_len)
open TL (joinL)
theorem ok_seq_assocR {f g h : List T → Option O} {γ : List T} {Q : O → Prop} (k : Ok (sSeq (sSeq f g) h γ) Q) : Ok (sSeq f (sSeq g h) γ) Q := by
  obtain ⟨o, e, q⟩ := k
  refine ⟨o, ?_, q⟩
  rw [← e]
  unfold sSeq
  cases f γ with
  | none => rfl
  | some o => cases o <;> rfl
def AfP (ns : List Int) (γ : List T) : Prop := ∃ u1 u2 u3 u4 u5 u6 u7 u8 u9 u10 u11 u12, γ = En (.d (.lst (ns.map .int))) u1 u2 u3 u4 u5 u6 u7 u8 u9 u10 u11 u12
theorem turn_all {cl : Nat → Addr} {ns : List Int} (hz : ns.length ≤ 63) {i : Int} (h0 : 0 ≤ i) (h1 : i ≤ 100) {t2 t3 t4 t5 t6 t7 t8 t9 t10 t11 t12 : T} :
    Ok (law_0b cl (En (.d (.lst (ns.map .int))) (.d (.int i)) t2 t3 t4 t5 t6 t7 t8 t9 t10 t11 t12)) fun o => ∃ γ, AfP ns γ ∧ o = .nx γ := by
  have hb := big
  obtain ⟨s, hs, eb⟩ := bag_ex cl hz h0 h1
  refine ok_seq (γ' := En (.d (.lst (ns.map .int))) (.d (.int i)) (bt s) t3 t4 t5 t6 t7 t8 t9 t10 t11 t12) (Ok.eq (by simp [-List.map_map, law_0b0, eb])) ?_
  obtain ⟨q, eq, ws, s1, hl, nd, hw, o1, rfl⟩ := names_ex cl hs (k := 5) (by omega)
  match ws, hl with
  | [a, b, c, d, e], _ =>
    have w : Wds a b c d e := ⟨hw, nd⟩
    refine ok_seq (γ' := En (.d (.lst (ns.map .int))) (.d (.int i)) (bt s1) (.d (.lst (nL [a, b, c, d, e]))) t4 t5 t6 t7 t8 t9 t10 t11 t12) ?_ ?_
    · generalize nL [a, b, c, d, e] = N at *
      have eq' : f_law_names cl [bt s, .d (.int 5)] = some (.ret (.lst N) [bt s1, .d (.int 5)]) := eq
      exact Ok.eq (by simp [-List.map_map, law_0b1, eq'])
    refine ok_seq_assocR ?_
    refine ok_seqP (b23 (cl := cl) (a := a) (b := b) (c := c) (d := d) (e := e) o1) ?_
    rintro q ⟨s2, o, o2, hO, rfl⟩
    obtain ⟨p1, p2, p3⟩ := hO.ok w
    have W := w.grd p1 p2
    refine ⟨_, rfl, ok_seqP (b4 w) ?_⟩
    rintro q ⟨u7, h7, rfl⟩
    refine ⟨_, rfl, ok_seqP (b5 W p3 (by simp) o2) ?_⟩
    rintro q ⟨γ, ⟨s3, rs, u8, o3, hR, rfl⟩, rfl⟩
    have hr := hR.rows (by omega)
    refine ⟨_, rfl, b678 W.lo ?_⟩
    obtain ⟨e1, e2, R, k9⟩ := b9 (cl := cl) W hr (t0 := .d (.lst (ns.map .int))) (t1 := .d (.int i)) (t2 := bt s3) (t3 := .d (.lst (nL [a, b, c, d, e]))) (t7 := u7) (t8 := u8) (t9 := .lst (nL o).reverse) (t12 := t12)
    obtain ⟨f1, f2, R2, k10⟩ := b10 (cl := cl) W hr (t0 := .d (.lst (ns.map .int))) (t1 := .d (.int i)) (t2 := bt s3) (t3 := .d (.lst (nL [a, b, c, d, e]))) (t7 := u7) (t8 := u8) (t9 := .lst (nL o).reverse) (t10 := tbT cl o e1 e2) (t12 := t12)
    refine ok_seq k9 (ok_seq k10 (b1112 hr R fun u12 => ?_))
    refine ok_seq (b13 W hr R R2) (Ok.of (b14 w h7) ?_)
    exact ⟨_, ⟨_, _, _, _, _, _, _, _, _, _, _, _, rfl⟩, rfl⟩
theorem law1_ok {cl : Nat → Addr} {γ : List T} : law_1 cl γ = some (.nx γ) := by
  have q1 : Str.ofString "at at at" = wd (sd [97, 116] [97, 116]) := by decide
  have q2 : Str.ofString "abcdefgh at abcdefgh" = wd (sd [97, 98, 99, 100, 101, 102, 103, 104] [97, 98, 99, 100, 101, 102, 103, 104]) := by decide
  have g1 := good_sd (cl := cl) (x := [97, 116]) (y := [97, 116]) (by decide) (by decide)
  have g2 := good_sd (cl := cl) (x := [97, 98, 99, 100, 101, 102, 103, 104]) (y := [97, 98, 99, 100, 101, 102, 103, 104]) (by decide) (by decide)
  rw [← q1] at g1
  rw [← q2] at g2
  exact Ok.eq (by simp [law_1, g1, g2])
theorem law2_ok {cl : Nat → Addr} {γ : List T} : law_2 cl γ = some (.rt (.d (.bl true)) γ) := by
  have hb := big
  have q1 : Str.ofString "" = wd [] := by decide
  have q2 : Str.ofString "at" = wd [97, 116] := by decide
  have q3 : Str.ofString " at " = wd [32, 97, 116, 32] := by decide
  have q4 : Str.ofString "a at " = wd [97, 32, 97, 116, 32] := by decide
  have q5 : Str.ofString "abcdefghi at b" = wd ([97, 98, 99, 100, 101, 102, 103, 104, 105, 32, 97, 116, 32, 98]) := by decide
  have z8 : 8 ≤ sizeLine := by omega
  have k := none_ok cl (ds := [.str (Str.ofString ""), .str (Str.ofString "at"), .str (Str.ofString " at "), .str (Str.ofString "a at "), .str (Str.ofString "abcdefghi at b"), .non, .int 5, .bl true]) (by
    intro d hd
    simp only [List.mem_cons, List.not_mem_nil, or_false] at hd
    rcases hd with rfl | rfl | rfl | rfl | rfl | rfl | rfl | rfl
    · rw [q1]; exact bad_p cl (ps := [[]]) (by simp [joinL]) id (by simp) (by simp) (by simp) (by simp)
    · rw [q2]; exact bad_p cl (ps := [[97, 116]]) (by simp [joinL]) id (by simp) (by simp) (by simp) (by simp)
    · rw [q3]; exact bad_p cl (ps := [[], [97, 116], []]) (by simp [joinL]) (fun h => by have := h.1.1; simp at this) (by simp) (by simp) (by simp) (by simp)
    · rw [q4]; exact bad_p cl (ps := [[97], [97, 116], []]) (by simp [joinL]) (fun h => by have := h.2.2.1; simp at this) (by simp) (by simp) (by simp) (by simp)
    · rw [q5]; exact bad_p cl (ps := [[97, 98, 99, 100, 101, 102, 103, 104, 105], [97, 116], [98]]) (by simp [joinL]) (fun h => by have := h.1.2.1; simp at this) (by simp) (by simp) (by simp) (by simp)
    · exact sender_no cl rfl
    · exact sender_no cl rfl
    · exact sender_no cl rfl) (by simp)
  exact Ok.eq (by simp [law_2, z8, k])
theorem rng_n {ns : List Int} : ∃ n : Nat, n ≤ 3 ∧ ∀ γ : List T, γ[0]? = some (.d (.lst (ns.map .int))) → (iR1 (pOp oMax2 (pC (.int 1)) (pOp oMin2 (pC (.int 3)) (pUn oLen (pVar 0))))) γ = some (intsD 0 n) := by
  refine ⟨(if (1 : Int) < (if (ns.length : Int) < 3 then (ns.length : Int) else 3) then (if (ns.length : Int) < 3 then (ns.length : Int) else 3) else 1).toNat, by split <;> (try split) <;> omega, fun γ h => ?_⟩
  refine Ok.eq ?_
  simp [h]
  constructor
  · split <;> (try split) <;> omega
  · split <;> (try split) <;> omega
end G21
namespace G21
open PySem PySem.Spec PyProof.Rows L2 FD FD.FDW
def lawP (o : RF) : Prop := ∃ post, o = .ret (.d (.bl true)) post
theorem hl (cl : Nat → Addr) (hc : okCl cl) (ns : List Int) (hz : ns.length <= 63) : ∃ post, f_law cl [.d (.lst (ns.map .int))] = some (.ret (.d (.bl true)) post) := by
  suffices h : Ok (f_law cl [.d (.lst (ns.map .int))]) lawP by
    obtain ⟨o, e, post, rfl⟩ := h
    exact ⟨post, e⟩
  obtain ⟨n, hn, hr⟩ := rng_n (ns := ns)
  have loop : Ok (law_0 cl (En (.d (.lst (ns.map .int))) .em .em .em .em .em .em .em .em .em .em .em .em)) fun o => ∃ γ, AfP ns γ ∧ o = .nx γ := by
    unfold law_0
    rw [ok_sFor, ok_bind, ok_iP, ok_map, hr _ rfl, ok_some]
    refine ok_for (xs := List.range n) (enc := fun k : Nat => D.int (0 + (k : Nat))) (fun _ γ => AfP ns γ) ⟨.em, .em, .em, .em, .em, .em, .em, .em, .em, .em, .em, .em, rfl⟩ ?_ ?_
    · rintro i hi γ ⟨u1, u2, u3, u4, u5, u6, u7, u8, u9, u10, u11, u12, rfl⟩
      simp only [List.length_range] at hi
      rw [ok_gN, ok_some]
      have := turn_all (cl := cl) hz (i := 0 + ((List.range n)[i] : Nat)) (by omega) (by rw [List.getElem_range]; omega) (t2 := u2) (t3 := u3) (t4 := u4) (t5 := u5) (t6 := u6) (t7 := u7) (t8 := u8) (t9 := u9) (t10 := u10) (t11 := u11) (t12 := u12)
      refine this.mono ?_
      rintro o ⟨γ, h, rfl⟩
      exact h
    · rintro γ h
      exact ⟨γ, h, rfl⟩
  unfold f_law
  rw [ok_fnF, ok_iteN]
  refine ⟨⟨rfl, rfl⟩, ?_⟩
  rw [ok_bind]
  unfold b_law
  refine ok_seqP loop ?_
  rintro o ⟨γ, ⟨u1, u2, u3, u4, u5, u6, u7, u8, u9, u10, u11, u12, rfl⟩, rfl⟩
  refine ⟨_, rfl, ok_seq law1_ok (Ok.of law2_ok ?_)⟩
  exact Ok.of rfl ⟨_, rfl⟩
end G21
open PySem PySem.W PyProof.Rows FD
set_option maxHeartbeats 0 in
theorem PySem.Challenge.cw_filedalike_k21_standings_of_senders_holds : PySem.Challenge.rw_filedalike_k21_standings_of_senders.Holds := by
  w_on; o_law; k_head; (case hw => w_witness2)
  k_fill
  refine L2.walk_ofK (l := PySem.Challenge.rw_filedalike_k21_standings_of_senders) (n := 63) (k := 6) (x := "_law_script") (CX := L2.CX0) (sp := G21.spLaw) rfl (by decide) rfl ⟨rfl, by decide, by decide⟩ (fun w h Y => PySem.W.kIn_of Y) ?F (fun K H a ns hz _ hS cl hc => G21.sp_here cl (G21.hl cl hc) hz hS) (fun _ _ _ _ h => h)
  case F =>
    intro w mg fa h KX G hmg
    refine' (G21.all_mk KX G hmg ?aC_Senders ?a_is_name ?l_is_name ?cd_in_is_name ?kp_is_name ?a_those_in ?l_those_in ?cd_in_those_in ?kp_those_in ?a_is_sender ?l_is_sender ?cd_in_is_sender ?kp_is_sender ?a_Senders_init ?i_Senders_init ?l_Senders_init ?cd_in_Senders_init ?kp_Senders_init ?a_Senders_give ?i_Senders_give ?l_Senders_give ?cd_in_Senders_give ?kp_Senders_give ?ns_Senders_give_by_hand ?a_Senders_standings_of ?i_Senders_standings_of ?l_Senders_standings_of ?cd_in_Senders_standings_of ?kp_Senders_standings_of ?a_Senders_by_hand ?i_Senders_by_hand ?l_Senders_by_hand ?cd_in_Senders_by_hand ?kp_Senders_by_hand ?a_Senders_names ?i_Senders_names ?l_Senders_names ?cd_in_Senders_names ?kp_Senders_names ?a_Senders_contains ?i_Senders_contains ?l_Senders_contains ?cd_in_Senders_contains ?kp_Senders_contains ?a_Senders_len ?i_Senders_len ?l_Senders_len ?cd_in_Senders_len ?kp_Senders_len ?a_law_bag ?l_law_bag ?cd_in_law_bag ?kp_law_bag ?a_law_take ?l_law_take ?cd_in_law_take ?kp_law_take ?a_law_of ?l_law_of ?cd_in_law_of ?kp_law_of ?a_law_names ?l_law_names ?cd_in_law_names ?kp_law_names ?a_law_told ?l_law_told ?cd_in_law_told ?kp_law_told ?a_law_given ?l_law_given ?cd_in_law_given ?kp_law_given ?a_law_bool ?l_law_bool ?cd_in_law_bool ?kp_law_bool ?a_law_bent ?l_law_bent ?cd_in_law_bent ?kp_law_bent ?a_law_none ?l_law_none ?cd_in_law_none ?kp_law_none ?a_law_filled ?l_law_filled ?cd_in_law_filled ?kp_law_filled ?a_law ?l_law ?cd_in_law ?kp_law ?pg_Senders ?hd_Senders ?po_Senders ?sa_Senders ?nf_Senders__standings ?nf_Senders__by_hand ?nf_Senders__by_stamps ?mk_Senders ?kc_Senders ?ca_Senders ?ct_Senders ?cm_Senders ?ic_Senders ?ty_Senders ?cn_Senders ?z_all ?z_isinstance ?z_len ?z_str ?v_LONGEST_NAME ?z_tuple ?z_list ?z_set ?z_sorted ?z_abs ?z_enumerate ?z_int ?z_range ?z_bool ?z_max ?z_min).imp fun fd h => ⟨h.1, fun base hK hg => G21.law_sp ?okc (h.2 base hK hg)⟩
    (case aC_Senders => k_is)
    (case a_is_name => k_is)
    (case l_is_name => k_is)
    (case cd_in_is_name => k_is)
    (case kp_is_name => k_is)
    (case a_those_in => k_is)
    (case l_those_in => k_is)
    (case cd_in_those_in => k_is)
    (case kp_those_in => k_is)
    (case a_is_sender => k_is)
    (case l_is_sender => k_is)
    (case cd_in_is_sender => k_is)
    (case kp_is_sender => k_is)
    (case a_Senders_init => k_is)
    (case i_Senders_init => k_is)
    (case l_Senders_init => k_is)
    (case cd_in_Senders_init => k_is)
    (case kp_Senders_init => k_is)
    (case a_Senders_give => k_is)
    (case i_Senders_give => k_is)
    (case l_Senders_give => k_is)
    (case cd_in_Senders_give => k_is)
    (case kp_Senders_give => k_is)
    (case ns_Senders_give_by_hand => k_is)
    (case a_Senders_standings_of => k_is)
    (case i_Senders_standings_of => k_is)
    (case l_Senders_standings_of => k_is)
    (case cd_in_Senders_standings_of => k_is)
    (case kp_Senders_standings_of => k_is)
    (case a_Senders_by_hand => k_is)
    (case i_Senders_by_hand => k_is)
    (case l_Senders_by_hand => k_is)
    (case cd_in_Senders_by_hand => k_is)
    (case kp_Senders_by_hand => k_is)
    (case a_Senders_names => k_is)
    (case i_Senders_names => k_is)
    (case l_Senders_names => k_is)
    (case cd_in_Senders_names => k_is)
    (case kp_Senders_names => k_is)
    (case a_Senders_contains => k_is)
    (case i_Senders_contains => k_is)
    (case l_Senders_contains => k_is)
    (case cd_in_Senders_contains => k_is)
    (case kp_Senders_contains => k_is)
    (case a_Senders_len => k_is)
    (case i_Senders_len => k_is)
    (case l_Senders_len => k_is)
    (case cd_in_Senders_len => k_is)
    (case kp_Senders_len => k_is)
    (case a_law_bag => k_is)
    (case l_law_bag => k_is)
    (case cd_in_law_bag => k_is)
    (case kp_law_bag => k_is)
    (case a_law_take => k_is)
    (case l_law_take => k_is)
    (case cd_in_law_take => k_is)
    (case kp_law_take => k_is)
    (case a_law_of => k_is)
    (case l_law_of => k_is)
    (case cd_in_law_of => k_is)
    (case kp_law_of => k_is)
    (case a_law_names => k_is)
    (case l_law_names => k_is)
    (case cd_in_law_names => k_is)
    (case kp_law_names => k_is)
    (case a_law_told => k_is)
    (case l_law_told => k_is)
    (case cd_in_law_told => k_is)
    (case kp_law_told => k_is)
    (case a_law_given => k_is)
    (case l_law_given => k_is)
    (case cd_in_law_given => k_is)
    (case kp_law_given => k_is)
    (case a_law_bool => k_is)
    (case l_law_bool => k_is)
    (case cd_in_law_bool => k_is)
    (case kp_law_bool => k_is)
    (case a_law_bent => k_is)
    (case l_law_bent => k_is)
    (case cd_in_law_bent => k_is)
    (case kp_law_bent => k_is)
    (case a_law_none => k_is)
    (case l_law_none => k_is)
    (case cd_in_law_none => k_is)
    (case kp_law_none => k_is)
    (case a_law_filled => k_is)
    (case l_law_filled => k_is)
    (case cd_in_law_filled => k_is)
    (case kp_law_filled => k_is)
    (case a_law => k_is)
    (case l_law => k_is)
    (case cd_in_law => k_is)
    (case kp_law => k_is)
    (case pg_Senders => k_is)
    (case hd_Senders => k_is)
    (case po_Senders => k_is)
    (case sa_Senders => k_is)
    (case nf_Senders__standings => k_is)
    (case nf_Senders__by_hand => k_is)
    (case nf_Senders__by_stamps => k_is)
    (case mk_Senders => k_is)
    (case kc_Senders => k_is)
    (case ca_Senders => k_is)
    (case ct_Senders => k_is)
    (case cm_Senders => k_is)
    (case ic_Senders => k_is)
    (case ty_Senders => k_is)
    (case cn_Senders => k_is)
    (case z_all => k_is)
    (case z_isinstance => k_is)
    (case z_len => k_is)
    (case z_str => k_is)
    (case v_LONGEST_NAME => k_is)
    (case z_tuple => k_is)
    (case z_list => k_is)
    (case z_set => k_is)
    (case z_sorted => k_is)
    (case z_abs => k_is)
    (case z_enumerate => k_is)
    (case z_int => k_is)
    (case z_range => k_is)
    (case z_bool => k_is)
    (case z_max => k_is)
    (case z_min => k_is)
    (case okc => unfold G21.okCl; decide)

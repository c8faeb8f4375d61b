/-
  The program's skyline keeps layer 14's contracts (no claim is made here).
-/
import Derived.Test.YtklajpadnbeplaaSkyPe
namespace Go.Proofs.Ytklajpadnbeplaa
open Go.RowKit

theorem skyOK : SkyOK Rsky where
  keep := fun h hs hb => h.keep0 hs hb
  lt := fun h g hg => h.lt g hg
  ptr := fun h => by obtain ⟨p, g, e, _⟩ := h; exact ⟨_, e⟩
  of := fun m n w _ _ => pof_any m n w
  high := fun ks v l H x w h _ => phigh_any ks v l H x w h
  fit := fun ks v l H m n w h hm _ => pfit_any ks v l H m n w h hm
  put := fun ks v l H r w h hr => pput14_any ks v l H r.1 r.2.1 r.2.2.1 r.2.2.2 w h hr
  steps := fun ks v l H w h => (psteps14_any ks v l H w h).mono (by rintro e w' ⟨V, rfl, hV, hb⟩; exact ⟨V, rfl, hV.read, hb⟩)
  rebuild := fun m n vr rs w _ _ hr hl hin => prebuild_any m n vr rs w hr hl hin

end Go.Proofs.Ytklajpadnbeplaa

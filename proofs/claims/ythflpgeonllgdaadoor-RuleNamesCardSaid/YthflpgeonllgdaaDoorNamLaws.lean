/- Layer 3: the walks of NamesLabels and NamesOthers. -/
import Derived.Test.YthflpgeonllgdaaDoorNamAwake
namespace Go.Proofs.YthflpgeonllgdaaDoor.nam
open Go.RowKit Go.Shelf

end Go.Proofs.YthflpgeonllgdaaDoor.nam
